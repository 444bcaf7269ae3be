/-
  The law's walk of MachineSaves.
-/
import Derived.Test.YthkhadbeomkihaaDoorMcSl
namespace Go.Proofs.YthkhadbeomkihaaDoor
set_option maxRecDepth 100000
open Go.RowKit

theorem four (w : World) (o0 o1 o2 o3 : Obj) : ((((w.alloc o0).alloc o1).alloc o2).alloc o3).heap[w.heap.size + 1]? = some o1 ∧ ((((w.alloc o0).alloc o1).alloc o2).alloc o3).heap[w.heap.size + 1 + 1]? = some o2 ∧ ((((w.alloc o0).alloc o1).alloc o2).alloc o3).heap[w.heap.size + 1 + 1 + 1]? = some o3 := by
  have h := three (w.alloc o0) o1 o2 o3
  have e : (w.alloc o0).heap.size = w.heap.size + 1 := by simp
  rw [e] at h
  exact h
/-- Runs of the law's program, the image having been laid behind a world. -/
theorem sp_at (v : World) (A : Option Addr) (n cap : Nat) (data : List Int) (x a : Int) (wn : Nat) (o0 : Obj) (hd : BySl v A n cap data) (x0 : 0 ≤ x) (x1 : x < 18446744073709551616) (a0 : 0 ≤ a) (a1 : a < 18446744073709551616) (o3 : Obj) :
    HdAt ((((v.alloc o0).alloc (.cells #[.int .i64 0] 3)).alloc (.cells #[.int .i64 1, .int .i64 1, .int .i64 0, .int .i64 0, .int .u64 x, .int .i64 1, .int .i64 2, .int .i64 0, .int .i64 0, .int .u64 a, .int .i64 18, .int .i64 1, .int .i64 2, .int .i64 wn, .int .u64 0, .int .i64 17, .int .i64 3, .int .i64 2, .int .i64 wn, .int .u64 0, .int .i64 0, .int .i64 0, .int .i64 0, .int .i64 0, .int .u64 0] 59)).alloc o3) ⟨n, 0, 0, A, n, cap, some ⟨v.heap.size + 1, 0, none⟩, 1, 1, some ⟨v.heap.size + 1 + 1, 0, none⟩, 5, 5, none, 0, 0, Mc.sp x a data wn, []⟩ := by
  have hB : Below v.heap.size v ((((v.alloc o0).alloc (.cells #[.int .i64 0] 3)).alloc (.cells #[.int .i64 1, .int .i64 1, .int .i64 0, .int .i64 0, .int .u64 x, .int .i64 1, .int .i64 2, .int .i64 0, .int .i64 0, .int .u64 a, .int .i64 18, .int .i64 1, .int .i64 2, .int .i64 wn, .int .u64 0, .int .i64 17, .int .i64 3, .int .i64 2, .int .i64 wn, .int .u64 0, .int .i64 0, .int .i64 0, .int .i64 0, .int .i64 0, .int .u64 0] 59)).alloc o3) := ((((Below.refl _ _).alloc (Nat.le_refl _) _).alloc (by simp) _).alloc (by simp; omega) _).alloc (by simp; omega) _
  have h4 := four v o0 (.cells #[.int .i64 0] 3) (.cells #[.int .i64 1, .int .i64 1, .int .i64 0, .int .i64 0, .int .u64 x, .int .i64 1, .int .i64 2, .int .i64 0, .int .i64 0, .int .u64 a, .int .i64 18, .int .i64 1, .int .i64 2, .int .i64 wn, .int .u64 0, .int .i64 17, .int .i64 3, .int .i64 2, .int .i64 wn, .int .u64 0, .int .i64 0, .int .i64 0, .int .i64 0, .int .i64 0, .int .u64 0] 59) o3
  have hz : ((((v.alloc o0).alloc (.cells #[.int .i64 0] 3)).alloc (.cells #[.int .i64 1, .int .i64 1, .int .i64 0, .int .i64 0, .int .u64 x, .int .i64 1, .int .i64 2, .int .i64 0, .int .i64 0, .int .u64 a, .int .i64 18, .int .i64 1, .int .i64 2, .int .i64 wn, .int .u64 0, .int .i64 17, .int .i64 3, .int .i64 2, .int .i64 wn, .int .u64 0, .int .i64 0, .int .i64 0, .int .i64 0, .int .i64 0, .int .u64 0] 59)).alloc o3).heap.size = v.heap.size + 4 := by simp
  generalize (((v.alloc o0).alloc (.cells #[.int .i64 0] 3)).alloc (.cells #[.int .i64 1, .int .i64 1, .int .i64 0, .int .i64 0, .int .u64 x, .int .i64 1, .int .i64 2, .int .i64 0, .int .i64 0, .int .u64 a, .int .i64 18, .int .i64 1, .int .i64 2, .int .i64 wn, .int .u64 0, .int .i64 17, .int .i64 3, .int .i64 2, .int .i64 wn, .int .u64 0, .int .i64 0, .int .i64 0, .int .i64 0, .int .i64 0, .int .u64 0] 59)).alloc o3 = w1 at *
  refine ⟨⟨hd.below hB, ⟨rfl, Nat.le_refl _, by simp only [maxLen]; omega, by simp, fun _ => ⟨v.heap.size + 1, 0, rfl, by omega, fun i hi => ?_⟩⟩, ⟨rfl, Nat.le_refl _, by simp only [maxLen]; omega, by simp, fun i => ?_, fun _ => ⟨v.heap.size + 1 + 1, 0, rfl, by omega, fun i hi => ?_⟩⟩⟩, ?_, rfl, rfl, BySl.nil⟩
  · have hi : i < 1 := hi
    obtain rfl : i = 0 := by omega
    exact row_cell h4.1 0
  · show 0 ≤ ((Mc.sp x a data wn).cs.getD i Im.z5).m ∧ ((Mc.sp x a data wn).cs.getD i Im.z5).m < 18446744073709551616
    match i with
    | 0 => exact ⟨x0, x1⟩
    | 1 => exact ⟨a0, a1⟩
    | 2 | 3 | 4 => exact ⟨by simp [Mc.sp, Im.z5], by simp [Mc.sp, Im.z5]⟩
    | i + 5 => exact ⟨by simp [Mc.sp, Im.z5], by simp [Mc.sp, Im.z5]⟩
  · have hi : i < 5 := hi
    match i, hi with
    | 0, _ => exact ⟨row_cell h4.2.1 0, row_cell h4.2.1 1, row_cell h4.2.1 2, row_cell h4.2.1 3, row_cell h4.2.1 4⟩
    | 1, _ => exact ⟨row_cell h4.2.1 5, row_cell h4.2.1 6, row_cell h4.2.1 7, row_cell h4.2.1 8, row_cell h4.2.1 9⟩
    | 2, _ => exact ⟨row_cell h4.2.1 10, row_cell h4.2.1 11, row_cell h4.2.1 12, row_cell h4.2.1 13, row_cell h4.2.1 14⟩
    | 3, _ => exact ⟨row_cell h4.2.1 15, row_cell h4.2.1 16, row_cell h4.2.1 17, row_cell h4.2.1 18, row_cell h4.2.1 19⟩
    | 4, _ => exact ⟨row_cell h4.2.1 20, row_cell h4.2.1 21, row_cell h4.2.1 22, row_cell h4.2.1 23, row_cell h4.2.1 24⟩
  · show ((data.length : Nat) : Int) = n
    rw [hd.hlen]

set_option maxRecDepth 20000 in
set_option maxHeartbeats 12800000 in
theorem saves_0 (x a wide : Int) (A : Option Addr) (n cap : Nat) (data : List Int) (w : World) (ho : Ops w) (hd : BySl w A n cap data) (x0 : 0 ≤ x) (x1 : x < 18446744073709551616) (a0 : 0 ≤ a) (a1 : a < 18446744073709551616) (w0 : 0 ≤ wide) (hj : wide % 4 = 0) :
    Calls Tryd.prog 7 #[.int .u64 x, .int .u64 a, .slice A n cap, .int .u8 wide] w fun e w' => e = .returned (.bool true) ∧ Below w.heap.size w w' := by
  have hp := ho.pos
  have hdl := hd.hlen
  have hle := hd.hle
  have hcp := hd.hcap
  have hrem : wide.tmod 4 = 0 := by rw [Int.tmod_eq_emod_of_nonneg w0, hj]
  have haw : ∀ W, Below w.heap.size w W → Calls Tryd.prog 10 #[] W fun e w' => e = .returned (.bool true) ∧ Below W.heap.size W w' := fun W hW => mc_awake W (ho.below hW hp)
  have hrun : ∀ (v : World) (o0 o3 : Obj), n ≤ 64 → Below w.heap.size w v → Calls Tryd.prog 12 #[.agg #[.int .i64 n, .int .i64 0, .int .i64 0, .slice A n cap, .slice (some ⟨v.heap.size + 1, 0, none⟩) 1 1, .slice (some ⟨v.heap.size + 1 + 1, 0, none⟩) 5 5], .slice none 0 0, .int .i64 10] ((((v.alloc o0).alloc (.cells #[.int .i64 0] 3)).alloc (.cells #[.int .i64 1, .int .i64 1, .int .i64 0, .int .i64 0, .int .u64 x, .int .i64 1, .int .i64 2, .int .i64 0, .int .i64 0, .int .u64 a, .int .i64 18, .int .i64 1, .int .i64 2, .int .i64 1, .int .u64 0, .int .i64 17, .int .i64 3, .int .i64 2, .int .i64 1, .int .u64 0, .int .i64 0, .int .i64 0, .int .i64 0, .int .i64 0, .int .u64 0] 59)).alloc o3) (RunA (Mc.answer (Mc.sp x a data 1) [] 10) ((((v.alloc o0).alloc (.cells #[.int .i64 0] 3)).alloc (.cells #[.int .i64 1, .int .i64 1, .int .i64 0, .int .i64 0, .int .u64 x, .int .i64 1, .int .i64 2, .int .i64 0, .int .i64 0, .int .u64 a, .int .i64 18, .int .i64 1, .int .i64 2, .int .i64 1, .int .u64 0, .int .i64 17, .int .i64 3, .int .i64 2, .int .i64 1, .int .u64 0, .int .i64 0, .int .i64 0, .int .i64 0, .int .i64 0, .int .u64 0] 59)).alloc o3)) := fun v o0 o3 hn hW => by
    have h1 : Below w.heap.size w ((((v.alloc o0).alloc (.cells #[.int .i64 0] 3)).alloc (.cells #[.int .i64 1, .int .i64 1, .int .i64 0, .int .i64 0, .int .u64 x, .int .i64 1, .int .i64 2, .int .i64 0, .int .i64 0, .int .u64 a, .int .i64 18, .int .i64 1, .int .i64 2, .int .i64 1, .int .u64 0, .int .i64 17, .int .i64 3, .int .i64 2, .int .i64 1, .int .u64 0, .int .i64 0, .int .i64 0, .int .i64 0, .int .i64 0, .int .u64 0] 59)).alloc o3) := hW.trans ((((((Below.refl _ _).alloc (Nat.le_refl _) _).alloc (by simp) _).alloc (by simp; omega) _).alloc (by simp; omega) _).mono hW.size)
    exact run_any ⟨n, 0, 0, A, n, cap, some ⟨v.heap.size + 1, 0, none⟩, 1, 1, some ⟨v.heap.size + 1 + 1, 0, none⟩, 5, 5, none, 0, 0, Mc.sp x a data 1, []⟩ 10 _ (ho.below h1 hp) (sp_at v A n cap data x a 1 o0 (hd.below hW) x0 x1 a0 a1 o3)
  have hn4 : (1 = 1 ∨ 1 = 2 ∨ 1 = 4 ∨ 1 = 8) := by decide
  have hout := Mc.sp_out (x := x) (a := a) (data := data) (n := 1) hn4
  have hinn := Mc.sp_in (x := x) (a := a) (data := data) (n := 1) hn4
  generalize Mc.answer (Mc.sp x a data 1) [] 10 = r at *
  obtain ⟨pa, en, rg, mm, er⟩ := r
  unfold maxLen at hcp
  have HAW := Lib.hid haw
  have HRUN := Lib.hid hrun
  have HOUT := Lib.hid hout
  have HIN := Lib.hid hinn
  have HD := Lib.hid hd
  have HDL := Lib.hid hdl
  have HXA := Lib.hid (And.intro (And.intro x0 x1) (And.intro a0 a1))
  clear haw hrun hout hinn hd hdl x0 x1 hj w0 ho hn4
  go_enter Tryd.func7, Tryd.ntmps7
  go_wp2_with fail
  refine (HAW.out _ (Below.refl _ _)).mono ?_
  rintro e v ⟨rfl, hb⟩
  have HB := Lib.hid hb
  clear hb
  by_cases h64 : (64 : Int) < n
  · go_wp2
    go_ret
    exact ⟨rfl, HB.out.trans ((Below.box _ _).mono HB.out.size)⟩
  go_wp2_with fail
  have hn64 : n ≤ 64 := by omega
  have hvz : Below v.heap.size v ((((v.alloc (.cells #[.int .i64 1, .int .i64 2, .int .i64 4, .int .i64 8] 3)).alloc (.cells #[.int .i64 0] 3)).alloc (.cells #[.int .i64 1, .int .i64 1, .int .i64 0, .int .i64 0, .int .u64 x, .int .i64 1, .int .i64 2, .int .i64 0, .int .i64 0, .int .u64 a, .int .i64 18, .int .i64 1, .int .i64 2, .int .i64 1, .int .u64 0, .int .i64 17, .int .i64 3, .int .i64 2, .int .i64 1, .int .u64 0, .int .i64 0, .int .i64 0, .int .i64 0, .int .i64 0, .int .u64 0] 59)).alloc (.cells #[.int .i64 n, .int .i64 0, .int .i64 0, .slice A n cap, .slice (some ⟨v.heap.size + 1, 0, none⟩) 1 1, .slice (some ⟨v.heap.size + 1 + 1, 0, none⟩) 5 5] 26)) := ((((Below.refl _ _).alloc (Nat.le_refl _) _).alloc (by simp) _).alloc (by simp; omega) _).alloc (by simp; omega) _
  have HV4 := Lib.hid hvz
  clear hvz
  by_cases hin : a + (1 : Nat) ≤ data.length
  · have hr := HIN.out (by rw [HDL.out]; omega) a0 a1 (by omega)
    simp only [Prod.mk.injEq] at hr
    obtain ⟨g1, g2, g3, g4, g5⟩ := hr
    rw [HDL.out] at hin
    obtain ⟨k, hk⟩ := Int.eq_ofNat_of_zero_le a0
    have hkn : k + 1 ≤ n := by omega
    have hkd : k + 1 ≤ data.length := by rw [HDL.out]; exact hkn
    have hkt : a.toNat = k := by omega
    rw [hkt] at g4
    have hml : mm.length = n := by rw [g4, Mc.sav_len hkd, HDL.out]
    have htk : mm.take k = data.take k := by rw [g4, Mc.sav_take' hkd]
    have hdr : mm.drop (k + 1) = data.drop (k + 1) := by rw [g4, Mc.sav_drop' hkd]
    obtain ⟨c, hc⟩ : ∃ c, x % 256 ^ 1 = c := ⟨_, rfl⟩
    rw [hc] at g3
    have hcut : x.tmod 256 = c := by rw [Int.tmod_eq_emod_of_nonneg HXA.out.1.1]; rw [← hc]; rfl
    subst g1 g2 g3 g5
    clear hc g4 hkt hkd
    refine (HRUN.out v _ _ hn64 HB.out).mono ?_
    rintro e v2 ⟨pA, pcap, mA, mcap, rfl, hpt, hby, hb⟩
    simp only [trC, List.getD_cons_zero, List.getD_cons_succ, List.length_cons, List.length_nil, hml] at hby ⊢
    have hB2 := HV4.out.trans (hb.mono HV4.out.size)
    have hD2 := HD.out.below (HB.out.trans (hB2.mono HB.out.size))
    obtain ⟨V1, s1, t1⟩ := cut_hi mA n mcap k (by omega) hby.hle
    obtain ⟨V2, s2, t2⟩ := cut_hi A n cap k (by omega) hle
    obtain ⟨V3, s3, t3⟩ := cut_lo mA n mcap (k + 1) hkn hby.hle
    obtain ⟨V4, s4, t4⟩ := cut_lo A n cap (k + 1) hkn hle
    have c1 : ∀ o m, (convert 22 9 V1).run Tryd.prog ((v2.alloc o).drewN m) = .ok (.string (strOfNums (data.take k))) ((v2.alloc o).drewN m) := fun o m => by rw [← htk]; exact t1 _ mm (hby.below (below_drewN (Below.box _ _) m))
    have c2 : ∀ o m, (convert 22 9 V2).run Tryd.prog ((v2.alloc o).drewN m) = .ok (.string (strOfNums (data.take k))) ((v2.alloc o).drewN m) := fun o m => t2 _ data (hD2.below (below_drewN (Below.box _ _) m))
    have c3 : ∀ o m, (convert 22 9 V3).run Tryd.prog ((v2.alloc o).drewN m) = .ok (.string (strOfNums (data.drop (k + 1)))) ((v2.alloc o).drewN m) := fun o m => by rw [← hdr]; exact t3 _ mm (hby.below (below_drewN (Below.box _ _) m))
    have c4 : ∀ o m, (convert 22 9 V4).run Tryd.prog ((v2.alloc o).drewN m) = .ok (.string (strOfNums (data.drop (k + 1)))) ((v2.alloc o).drewN m) := fun o m => t4 _ data (hD2.below (below_drewN (Below.box _ _) m))
    have ekw : ((k + 1 : Nat) : Int) = (k : Int) + 1 := by omega
    rw [ekw] at s3 s4
    generalize strOfNums (data.take k) = S1 at *
    generalize strOfNums (data.drop (k + 1)) = S2 at *
    have HB2 := Lib.hid (HB.out.trans (hB2.mono HB.out.size))
    clear hpt hby hb hB2 hD2 t1 t2 t3 t4 htk hdr hml ekw
    subst hk
    have hlt : ¬ (n : Int) < 1 := by omega
    have e1 : IntKind.i64.wrap ((n : Int) - 1) = n - 1 := by rw [IntKind.wrap_i64]; omega
    have e2 : IntKind.u64.wrap ((n : Int) - 1) = n - 1 := by rw [IntKind.wrap_u64]; omega
    have e3 : IntKind.i64.wrap (k : Int) = k := by rw [IntKind.wrap_i64]; omega
    have e4 : IntKind.i64.wrap ((k : Int) + 1) = k + 1 := by rw [IntKind.wrap_i64]; omega
    have hgt : ¬ (n : Int) - 1 < k := by omega
    go_wp2
    go_quiet (fail)
    go_wp2
    go_ret
    exact ⟨rfl, HB2.out.trans (below_drewN ((Below.box _ _).mono HB2.out.size) nq)⟩
  · have hr := HOUT.out (by rw [HDL.out]; omega) a0 a1 (by omega)
    simp only [Prod.mk.injEq] at hr
    obtain ⟨g1, g2, g3, g4, g5⟩ := hr
    have g4 := g4.symm
    subst g1 g2 g3 g4 g5
    refine (HRUN.out v _ _ hn64 HB.out).mono ?_
    rintro e v2 ⟨pA, pcap, mA, mcap, rfl, hpt, hby, hb⟩
    rw [HDL.out] at hin
    simp only [trC, List.getD_cons_zero, List.getD_cons_succ, List.length_cons, List.length_nil, HDL.out] at hby ⊢
    have hB2 := HV4.out.trans (hb.mono HV4.out.size)
    have hs1 : ∀ o, (convert 22 9 (.slice mA n mcap)).run Tryd.prog (v2.alloc o) = .ok (.string (strOfNums data)) (v2.alloc o) := fun o => by_str (hby.below (Below.box _ _))
    have hs2 : ∀ o, (convert 22 9 (.slice A n cap)).run Tryd.prog (v2.alloc o) = .ok (.string (strOfNums data)) (v2.alloc o) := fun o => by_str ((HD.out.below (HB.out.trans (hB2.mono HB.out.size))).below (Below.box _ _))
    generalize strOfNums data = S at *
    have HB2 := Lib.hid (HB.out.trans (hB2.mono HB.out.size))
    clear hpt hby hb hB2
    by_cases hlt : (n : Int) < 1
    · go_wp2
      go_ret
      exact ⟨rfl, HB2.out.trans ((Below.box _ _).mono HB2.out.size)⟩
    · have e1 : IntKind.i64.wrap ((n : Int) - 1) = n - 1 := by rw [IntKind.wrap_i64]; omega
      have e2 : IntKind.u64.wrap ((n : Int) - 1) = n - 1 := by rw [IntKind.wrap_u64]; omega
      have hgt : (n : Int) - 1 < a := by omega
      go_wp2
      go_ret
      exact ⟨rfl, HB2.out.trans ((Below.box _ _).mono HB2.out.size)⟩

set_option maxRecDepth 20000 in
set_option maxHeartbeats 12800000 in
theorem saves_1 (x a wide : Int) (A : Option Addr) (n cap : Nat) (data : List Int) (w : World) (ho : Ops w) (hd : BySl w A n cap data) (x0 : 0 ≤ x) (x1 : x < 18446744073709551616) (a0 : 0 ≤ a) (a1 : a < 18446744073709551616) (w0 : 0 ≤ wide) (hj : wide % 4 = 1) :
    Calls Tryd.prog 7 #[.int .u64 x, .int .u64 a, .slice A n cap, .int .u8 wide] w fun e w' => e = .returned (.bool true) ∧ Below w.heap.size w w' := by
  have hp := ho.pos
  have hdl := hd.hlen
  have hle := hd.hle
  have hcp := hd.hcap
  have hrem : wide.tmod 4 = 1 := by rw [Int.tmod_eq_emod_of_nonneg w0, hj]
  have haw : ∀ W, Below w.heap.size w W → Calls Tryd.prog 10 #[] W fun e w' => e = .returned (.bool true) ∧ Below W.heap.size W w' := fun W hW => mc_awake W (ho.below hW hp)
  have hrun : ∀ (v : World) (o0 o3 : Obj), n ≤ 64 → Below w.heap.size w v → Calls Tryd.prog 12 #[.agg #[.int .i64 n, .int .i64 0, .int .i64 0, .slice A n cap, .slice (some ⟨v.heap.size + 1, 0, none⟩) 1 1, .slice (some ⟨v.heap.size + 1 + 1, 0, none⟩) 5 5], .slice none 0 0, .int .i64 10] ((((v.alloc o0).alloc (.cells #[.int .i64 0] 3)).alloc (.cells #[.int .i64 1, .int .i64 1, .int .i64 0, .int .i64 0, .int .u64 x, .int .i64 1, .int .i64 2, .int .i64 0, .int .i64 0, .int .u64 a, .int .i64 18, .int .i64 1, .int .i64 2, .int .i64 2, .int .u64 0, .int .i64 17, .int .i64 3, .int .i64 2, .int .i64 2, .int .u64 0, .int .i64 0, .int .i64 0, .int .i64 0, .int .i64 0, .int .u64 0] 59)).alloc o3) (RunA (Mc.answer (Mc.sp x a data 2) [] 10) ((((v.alloc o0).alloc (.cells #[.int .i64 0] 3)).alloc (.cells #[.int .i64 1, .int .i64 1, .int .i64 0, .int .i64 0, .int .u64 x, .int .i64 1, .int .i64 2, .int .i64 0, .int .i64 0, .int .u64 a, .int .i64 18, .int .i64 1, .int .i64 2, .int .i64 2, .int .u64 0, .int .i64 17, .int .i64 3, .int .i64 2, .int .i64 2, .int .u64 0, .int .i64 0, .int .i64 0, .int .i64 0, .int .i64 0, .int .u64 0] 59)).alloc o3)) := fun v o0 o3 hn hW => by
    have h1 : Below w.heap.size w ((((v.alloc o0).alloc (.cells #[.int .i64 0] 3)).alloc (.cells #[.int .i64 1, .int .i64 1, .int .i64 0, .int .i64 0, .int .u64 x, .int .i64 1, .int .i64 2, .int .i64 0, .int .i64 0, .int .u64 a, .int .i64 18, .int .i64 1, .int .i64 2, .int .i64 2, .int .u64 0, .int .i64 17, .int .i64 3, .int .i64 2, .int .i64 2, .int .u64 0, .int .i64 0, .int .i64 0, .int .i64 0, .int .i64 0, .int .u64 0] 59)).alloc o3) := hW.trans ((((((Below.refl _ _).alloc (Nat.le_refl _) _).alloc (by simp) _).alloc (by simp; omega) _).alloc (by simp; omega) _).mono hW.size)
    exact run_any ⟨n, 0, 0, A, n, cap, some ⟨v.heap.size + 1, 0, none⟩, 1, 1, some ⟨v.heap.size + 1 + 1, 0, none⟩, 5, 5, none, 0, 0, Mc.sp x a data 2, []⟩ 10 _ (ho.below h1 hp) (sp_at v A n cap data x a 2 o0 (hd.below hW) x0 x1 a0 a1 o3)
  have hn4 : (2 = 1 ∨ 2 = 2 ∨ 2 = 4 ∨ 2 = 8) := by decide
  have hout := Mc.sp_out (x := x) (a := a) (data := data) (n := 2) hn4
  have hinn := Mc.sp_in (x := x) (a := a) (data := data) (n := 2) hn4
  generalize Mc.answer (Mc.sp x a data 2) [] 10 = r at *
  obtain ⟨pa, en, rg, mm, er⟩ := r
  unfold maxLen at hcp
  have HAW := Lib.hid haw
  have HRUN := Lib.hid hrun
  have HOUT := Lib.hid hout
  have HIN := Lib.hid hinn
  have HD := Lib.hid hd
  have HDL := Lib.hid hdl
  have HXA := Lib.hid (And.intro (And.intro x0 x1) (And.intro a0 a1))
  clear haw hrun hout hinn hd hdl x0 x1 hj w0 ho hn4
  go_enter Tryd.func7, Tryd.ntmps7
  go_wp2_with fail
  refine (HAW.out _ (Below.refl _ _)).mono ?_
  rintro e v ⟨rfl, hb⟩
  have HB := Lib.hid hb
  clear hb
  by_cases h64 : (64 : Int) < n
  · go_wp2
    go_ret
    exact ⟨rfl, HB.out.trans ((Below.box _ _).mono HB.out.size)⟩
  go_wp2_with fail
  have hn64 : n ≤ 64 := by omega
  have hvz : Below v.heap.size v ((((v.alloc (.cells #[.int .i64 1, .int .i64 2, .int .i64 4, .int .i64 8] 3)).alloc (.cells #[.int .i64 0] 3)).alloc (.cells #[.int .i64 1, .int .i64 1, .int .i64 0, .int .i64 0, .int .u64 x, .int .i64 1, .int .i64 2, .int .i64 0, .int .i64 0, .int .u64 a, .int .i64 18, .int .i64 1, .int .i64 2, .int .i64 2, .int .u64 0, .int .i64 17, .int .i64 3, .int .i64 2, .int .i64 2, .int .u64 0, .int .i64 0, .int .i64 0, .int .i64 0, .int .i64 0, .int .u64 0] 59)).alloc (.cells #[.int .i64 n, .int .i64 0, .int .i64 0, .slice A n cap, .slice (some ⟨v.heap.size + 1, 0, none⟩) 1 1, .slice (some ⟨v.heap.size + 1 + 1, 0, none⟩) 5 5] 26)) := ((((Below.refl _ _).alloc (Nat.le_refl _) _).alloc (by simp) _).alloc (by simp; omega) _).alloc (by simp; omega) _
  have HV4 := Lib.hid hvz
  clear hvz
  by_cases hin : a + (2 : Nat) ≤ data.length
  · have hr := HIN.out (by rw [HDL.out]; omega) a0 a1 (by omega)
    simp only [Prod.mk.injEq] at hr
    obtain ⟨g1, g2, g3, g4, g5⟩ := hr
    rw [HDL.out] at hin
    obtain ⟨k, hk⟩ := Int.eq_ofNat_of_zero_le a0
    have hkn : k + 2 ≤ n := by omega
    have hkd : k + 2 ≤ data.length := by rw [HDL.out]; exact hkn
    have hkt : a.toNat = k := by omega
    rw [hkt] at g4
    have hml : mm.length = n := by rw [g4, Mc.sav_len hkd, HDL.out]
    have htk : mm.take k = data.take k := by rw [g4, Mc.sav_take' hkd]
    have hdr : mm.drop (k + 2) = data.drop (k + 2) := by rw [g4, Mc.sav_drop' hkd]
    obtain ⟨c, hc⟩ : ∃ c, x % 256 ^ 2 = c := ⟨_, rfl⟩
    rw [hc] at g3
    have hcut : x.tmod 65536 = c := by rw [Int.tmod_eq_emod_of_nonneg HXA.out.1.1]; rw [← hc]; rfl
    subst g1 g2 g3 g5
    clear hc g4 hkt hkd
    refine (HRUN.out v _ _ hn64 HB.out).mono ?_
    rintro e v2 ⟨pA, pcap, mA, mcap, rfl, hpt, hby, hb⟩
    simp only [trC, List.getD_cons_zero, List.getD_cons_succ, List.length_cons, List.length_nil, hml] at hby ⊢
    have hB2 := HV4.out.trans (hb.mono HV4.out.size)
    have hD2 := HD.out.below (HB.out.trans (hB2.mono HB.out.size))
    obtain ⟨V1, s1, t1⟩ := cut_hi mA n mcap k (by omega) hby.hle
    obtain ⟨V2, s2, t2⟩ := cut_hi A n cap k (by omega) hle
    obtain ⟨V3, s3, t3⟩ := cut_lo mA n mcap (k + 2) hkn hby.hle
    obtain ⟨V4, s4, t4⟩ := cut_lo A n cap (k + 2) hkn hle
    have c1 : ∀ o m, (convert 22 9 V1).run Tryd.prog ((v2.alloc o).drewN m) = .ok (.string (strOfNums (data.take k))) ((v2.alloc o).drewN m) := fun o m => by rw [← htk]; exact t1 _ mm (hby.below (below_drewN (Below.box _ _) m))
    have c2 : ∀ o m, (convert 22 9 V2).run Tryd.prog ((v2.alloc o).drewN m) = .ok (.string (strOfNums (data.take k))) ((v2.alloc o).drewN m) := fun o m => t2 _ data (hD2.below (below_drewN (Below.box _ _) m))
    have c3 : ∀ o m, (convert 22 9 V3).run Tryd.prog ((v2.alloc o).drewN m) = .ok (.string (strOfNums (data.drop (k + 2)))) ((v2.alloc o).drewN m) := fun o m => by rw [← hdr]; exact t3 _ mm (hby.below (below_drewN (Below.box _ _) m))
    have c4 : ∀ o m, (convert 22 9 V4).run Tryd.prog ((v2.alloc o).drewN m) = .ok (.string (strOfNums (data.drop (k + 2)))) ((v2.alloc o).drewN m) := fun o m => t4 _ data (hD2.below (below_drewN (Below.box _ _) m))
    have ekw : ((k + 2 : Nat) : Int) = (k : Int) + 2 := by omega
    rw [ekw] at s3 s4
    generalize strOfNums (data.take k) = S1 at *
    generalize strOfNums (data.drop (k + 2)) = S2 at *
    have HB2 := Lib.hid (HB.out.trans (hB2.mono HB.out.size))
    clear hpt hby hb hB2 hD2 t1 t2 t3 t4 htk hdr hml ekw
    subst hk
    have hlt : ¬ (n : Int) < 2 := by omega
    have e1 : IntKind.i64.wrap ((n : Int) - 2) = n - 2 := by rw [IntKind.wrap_i64]; omega
    have e2 : IntKind.u64.wrap ((n : Int) - 2) = n - 2 := by rw [IntKind.wrap_u64]; omega
    have e3 : IntKind.i64.wrap (k : Int) = k := by rw [IntKind.wrap_i64]; omega
    have e4 : IntKind.i64.wrap ((k : Int) + 2) = k + 2 := by rw [IntKind.wrap_i64]; omega
    have hgt : ¬ (n : Int) - 2 < k := by omega
    go_wp2
    go_quiet (fail)
    go_wp2
    go_ret
    exact ⟨rfl, HB2.out.trans (below_drewN ((Below.box _ _).mono HB2.out.size) nq)⟩
  · have hr := HOUT.out (by rw [HDL.out]; omega) a0 a1 (by omega)
    simp only [Prod.mk.injEq] at hr
    obtain ⟨g1, g2, g3, g4, g5⟩ := hr
    have g4 := g4.symm
    subst g1 g2 g3 g4 g5
    refine (HRUN.out v _ _ hn64 HB.out).mono ?_
    rintro e v2 ⟨pA, pcap, mA, mcap, rfl, hpt, hby, hb⟩
    rw [HDL.out] at hin
    simp only [trC, List.getD_cons_zero, List.getD_cons_succ, List.length_cons, List.length_nil, HDL.out] at hby ⊢
    have hB2 := HV4.out.trans (hb.mono HV4.out.size)
    have hs1 : ∀ o, (convert 22 9 (.slice mA n mcap)).run Tryd.prog (v2.alloc o) = .ok (.string (strOfNums data)) (v2.alloc o) := fun o => by_str (hby.below (Below.box _ _))
    have hs2 : ∀ o, (convert 22 9 (.slice A n cap)).run Tryd.prog (v2.alloc o) = .ok (.string (strOfNums data)) (v2.alloc o) := fun o => by_str ((HD.out.below (HB.out.trans (hB2.mono HB.out.size))).below (Below.box _ _))
    generalize strOfNums data = S at *
    have HB2 := Lib.hid (HB.out.trans (hB2.mono HB.out.size))
    clear hpt hby hb hB2
    by_cases hlt : (n : Int) < 2
    · go_wp2
      go_ret
      exact ⟨rfl, HB2.out.trans ((Below.box _ _).mono HB2.out.size)⟩
    · have e1 : IntKind.i64.wrap ((n : Int) - 2) = n - 2 := by rw [IntKind.wrap_i64]; omega
      have e2 : IntKind.u64.wrap ((n : Int) - 2) = n - 2 := by rw [IntKind.wrap_u64]; omega
      have hgt : (n : Int) - 2 < a := by omega
      go_wp2
      go_ret
      exact ⟨rfl, HB2.out.trans ((Below.box _ _).mono HB2.out.size)⟩

set_option maxRecDepth 20000 in
set_option maxHeartbeats 12800000 in
theorem saves_2 (x a wide : Int) (A : Option Addr) (n cap : Nat) (data : List Int) (w : World) (ho : Ops w) (hd : BySl w A n cap data) (x0 : 0 ≤ x) (x1 : x < 18446744073709551616) (a0 : 0 ≤ a) (a1 : a < 18446744073709551616) (w0 : 0 ≤ wide) (hj : wide % 4 = 2) :
    Calls Tryd.prog 7 #[.int .u64 x, .int .u64 a, .slice A n cap, .int .u8 wide] w fun e w' => e = .returned (.bool true) ∧ Below w.heap.size w w' := by
  have hp := ho.pos
  have hdl := hd.hlen
  have hle := hd.hle
  have hcp := hd.hcap
  have hrem : wide.tmod 4 = 2 := by rw [Int.tmod_eq_emod_of_nonneg w0, hj]
  have haw : ∀ W, Below w.heap.size w W → Calls Tryd.prog 10 #[] W fun e w' => e = .returned (.bool true) ∧ Below W.heap.size W w' := fun W hW => mc_awake W (ho.below hW hp)
  have hrun : ∀ (v : World) (o0 o3 : Obj), n ≤ 64 → Below w.heap.size w v → Calls Tryd.prog 12 #[.agg #[.int .i64 n, .int .i64 0, .int .i64 0, .slice A n cap, .slice (some ⟨v.heap.size + 1, 0, none⟩) 1 1, .slice (some ⟨v.heap.size + 1 + 1, 0, none⟩) 5 5], .slice none 0 0, .int .i64 10] ((((v.alloc o0).alloc (.cells #[.int .i64 0] 3)).alloc (.cells #[.int .i64 1, .int .i64 1, .int .i64 0, .int .i64 0, .int .u64 x, .int .i64 1, .int .i64 2, .int .i64 0, .int .i64 0, .int .u64 a, .int .i64 18, .int .i64 1, .int .i64 2, .int .i64 4, .int .u64 0, .int .i64 17, .int .i64 3, .int .i64 2, .int .i64 4, .int .u64 0, .int .i64 0, .int .i64 0, .int .i64 0, .int .i64 0, .int .u64 0] 59)).alloc o3) (RunA (Mc.answer (Mc.sp x a data 4) [] 10) ((((v.alloc o0).alloc (.cells #[.int .i64 0] 3)).alloc (.cells #[.int .i64 1, .int .i64 1, .int .i64 0, .int .i64 0, .int .u64 x, .int .i64 1, .int .i64 2, .int .i64 0, .int .i64 0, .int .u64 a, .int .i64 18, .int .i64 1, .int .i64 2, .int .i64 4, .int .u64 0, .int .i64 17, .int .i64 3, .int .i64 2, .int .i64 4, .int .u64 0, .int .i64 0, .int .i64 0, .int .i64 0, .int .i64 0, .int .u64 0] 59)).alloc o3)) := fun v o0 o3 hn hW => by
    have h1 : Below w.heap.size w ((((v.alloc o0).alloc (.cells #[.int .i64 0] 3)).alloc (.cells #[.int .i64 1, .int .i64 1, .int .i64 0, .int .i64 0, .int .u64 x, .int .i64 1, .int .i64 2, .int .i64 0, .int .i64 0, .int .u64 a, .int .i64 18, .int .i64 1, .int .i64 2, .int .i64 4, .int .u64 0, .int .i64 17, .int .i64 3, .int .i64 2, .int .i64 4, .int .u64 0, .int .i64 0, .int .i64 0, .int .i64 0, .int .i64 0, .int .u64 0] 59)).alloc o3) := hW.trans ((((((Below.refl _ _).alloc (Nat.le_refl _) _).alloc (by simp) _).alloc (by simp; omega) _).alloc (by simp; omega) _).mono hW.size)
    exact run_any ⟨n, 0, 0, A, n, cap, some ⟨v.heap.size + 1, 0, none⟩, 1, 1, some ⟨v.heap.size + 1 + 1, 0, none⟩, 5, 5, none, 0, 0, Mc.sp x a data 4, []⟩ 10 _ (ho.below h1 hp) (sp_at v A n cap data x a 4 o0 (hd.below hW) x0 x1 a0 a1 o3)
  have hn4 : (4 = 1 ∨ 4 = 2 ∨ 4 = 4 ∨ 4 = 8) := by decide
  have hout := Mc.sp_out (x := x) (a := a) (data := data) (n := 4) hn4
  have hinn := Mc.sp_in (x := x) (a := a) (data := data) (n := 4) hn4
  generalize Mc.answer (Mc.sp x a data 4) [] 10 = r at *
  obtain ⟨pa, en, rg, mm, er⟩ := r
  unfold maxLen at hcp
  have HAW := Lib.hid haw
  have HRUN := Lib.hid hrun
  have HOUT := Lib.hid hout
  have HIN := Lib.hid hinn
  have HD := Lib.hid hd
  have HDL := Lib.hid hdl
  have HXA := Lib.hid (And.intro (And.intro x0 x1) (And.intro a0 a1))
  clear haw hrun hout hinn hd hdl x0 x1 hj w0 ho hn4
  go_enter Tryd.func7, Tryd.ntmps7
  go_wp2_with fail
  refine (HAW.out _ (Below.refl _ _)).mono ?_
  rintro e v ⟨rfl, hb⟩
  have HB := Lib.hid hb
  clear hb
  by_cases h64 : (64 : Int) < n
  · go_wp2
    go_ret
    exact ⟨rfl, HB.out.trans ((Below.box _ _).mono HB.out.size)⟩
  go_wp2_with fail
  have hn64 : n ≤ 64 := by omega
  have hvz : Below v.heap.size v ((((v.alloc (.cells #[.int .i64 1, .int .i64 2, .int .i64 4, .int .i64 8] 3)).alloc (.cells #[.int .i64 0] 3)).alloc (.cells #[.int .i64 1, .int .i64 1, .int .i64 0, .int .i64 0, .int .u64 x, .int .i64 1, .int .i64 2, .int .i64 0, .int .i64 0, .int .u64 a, .int .i64 18, .int .i64 1, .int .i64 2, .int .i64 4, .int .u64 0, .int .i64 17, .int .i64 3, .int .i64 2, .int .i64 4, .int .u64 0, .int .i64 0, .int .i64 0, .int .i64 0, .int .i64 0, .int .u64 0] 59)).alloc (.cells #[.int .i64 n, .int .i64 0, .int .i64 0, .slice A n cap, .slice (some ⟨v.heap.size + 1, 0, none⟩) 1 1, .slice (some ⟨v.heap.size + 1 + 1, 0, none⟩) 5 5] 26)) := ((((Below.refl _ _).alloc (Nat.le_refl _) _).alloc (by simp) _).alloc (by simp; omega) _).alloc (by simp; omega) _
  have HV4 := Lib.hid hvz
  clear hvz
  by_cases hin : a + (4 : Nat) ≤ data.length
  · have hr := HIN.out (by rw [HDL.out]; omega) a0 a1 (by omega)
    simp only [Prod.mk.injEq] at hr
    obtain ⟨g1, g2, g3, g4, g5⟩ := hr
    rw [HDL.out] at hin
    obtain ⟨k, hk⟩ := Int.eq_ofNat_of_zero_le a0
    have hkn : k + 4 ≤ n := by omega
    have hkd : k + 4 ≤ data.length := by rw [HDL.out]; exact hkn
    have hkt : a.toNat = k := by omega
    rw [hkt] at g4
    have hml : mm.length = n := by rw [g4, Mc.sav_len hkd, HDL.out]
    have htk : mm.take k = data.take k := by rw [g4, Mc.sav_take' hkd]
    have hdr : mm.drop (k + 4) = data.drop (k + 4) := by rw [g4, Mc.sav_drop' hkd]
    obtain ⟨c, hc⟩ : ∃ c, x % 256 ^ 4 = c := ⟨_, rfl⟩
    rw [hc] at g3
    have hcut : x.tmod 4294967296 = c := by rw [Int.tmod_eq_emod_of_nonneg HXA.out.1.1]; rw [← hc]; rfl
    subst g1 g2 g3 g5
    clear hc g4 hkt hkd
    refine (HRUN.out v _ _ hn64 HB.out).mono ?_
    rintro e v2 ⟨pA, pcap, mA, mcap, rfl, hpt, hby, hb⟩
    simp only [trC, List.getD_cons_zero, List.getD_cons_succ, List.length_cons, List.length_nil, hml] at hby ⊢
    have hB2 := HV4.out.trans (hb.mono HV4.out.size)
    have hD2 := HD.out.below (HB.out.trans (hB2.mono HB.out.size))
    obtain ⟨V1, s1, t1⟩ := cut_hi mA n mcap k (by omega) hby.hle
    obtain ⟨V2, s2, t2⟩ := cut_hi A n cap k (by omega) hle
    obtain ⟨V3, s3, t3⟩ := cut_lo mA n mcap (k + 4) hkn hby.hle
    obtain ⟨V4, s4, t4⟩ := cut_lo A n cap (k + 4) hkn hle
    have c1 : ∀ o m, (convert 22 9 V1).run Tryd.prog ((v2.alloc o).drewN m) = .ok (.string (strOfNums (data.take k))) ((v2.alloc o).drewN m) := fun o m => by rw [← htk]; exact t1 _ mm (hby.below (below_drewN (Below.box _ _) m))
    have c2 : ∀ o m, (convert 22 9 V2).run Tryd.prog ((v2.alloc o).drewN m) = .ok (.string (strOfNums (data.take k))) ((v2.alloc o).drewN m) := fun o m => t2 _ data (hD2.below (below_drewN (Below.box _ _) m))
    have c3 : ∀ o m, (convert 22 9 V3).run Tryd.prog ((v2.alloc o).drewN m) = .ok (.string (strOfNums (data.drop (k + 4)))) ((v2.alloc o).drewN m) := fun o m => by rw [← hdr]; exact t3 _ mm (hby.below (below_drewN (Below.box _ _) m))
    have c4 : ∀ o m, (convert 22 9 V4).run Tryd.prog ((v2.alloc o).drewN m) = .ok (.string (strOfNums (data.drop (k + 4)))) ((v2.alloc o).drewN m) := fun o m => t4 _ data (hD2.below (below_drewN (Below.box _ _) m))
    have ekw : ((k + 4 : Nat) : Int) = (k : Int) + 4 := by omega
    rw [ekw] at s3 s4
    generalize strOfNums (data.take k) = S1 at *
    generalize strOfNums (data.drop (k + 4)) = S2 at *
    have HB2 := Lib.hid (HB.out.trans (hB2.mono HB.out.size))
    clear hpt hby hb hB2 hD2 t1 t2 t3 t4 htk hdr hml ekw
    subst hk
    have hlt : ¬ (n : Int) < 4 := by omega
    have e1 : IntKind.i64.wrap ((n : Int) - 4) = n - 4 := by rw [IntKind.wrap_i64]; omega
    have e2 : IntKind.u64.wrap ((n : Int) - 4) = n - 4 := by rw [IntKind.wrap_u64]; omega
    have e3 : IntKind.i64.wrap (k : Int) = k := by rw [IntKind.wrap_i64]; omega
    have e4 : IntKind.i64.wrap ((k : Int) + 4) = k + 4 := by rw [IntKind.wrap_i64]; omega
    have hgt : ¬ (n : Int) - 4 < k := by omega
    go_wp2
    go_quiet (fail)
    go_wp2
    go_ret
    exact ⟨rfl, HB2.out.trans (below_drewN ((Below.box _ _).mono HB2.out.size) nq)⟩
  · have hr := HOUT.out (by rw [HDL.out]; omega) a0 a1 (by omega)
    simp only [Prod.mk.injEq] at hr
    obtain ⟨g1, g2, g3, g4, g5⟩ := hr
    have g4 := g4.symm
    subst g1 g2 g3 g4 g5
    refine (HRUN.out v _ _ hn64 HB.out).mono ?_
    rintro e v2 ⟨pA, pcap, mA, mcap, rfl, hpt, hby, hb⟩
    rw [HDL.out] at hin
    simp only [trC, List.getD_cons_zero, List.getD_cons_succ, List.length_cons, List.length_nil, HDL.out] at hby ⊢
    have hB2 := HV4.out.trans (hb.mono HV4.out.size)
    have hs1 : ∀ o, (convert 22 9 (.slice mA n mcap)).run Tryd.prog (v2.alloc o) = .ok (.string (strOfNums data)) (v2.alloc o) := fun o => by_str (hby.below (Below.box _ _))
    have hs2 : ∀ o, (convert 22 9 (.slice A n cap)).run Tryd.prog (v2.alloc o) = .ok (.string (strOfNums data)) (v2.alloc o) := fun o => by_str ((HD.out.below (HB.out.trans (hB2.mono HB.out.size))).below (Below.box _ _))
    generalize strOfNums data = S at *
    have HB2 := Lib.hid (HB.out.trans (hB2.mono HB.out.size))
    clear hpt hby hb hB2
    by_cases hlt : (n : Int) < 4
    · go_wp2
      go_ret
      exact ⟨rfl, HB2.out.trans ((Below.box _ _).mono HB2.out.size)⟩
    · have e1 : IntKind.i64.wrap ((n : Int) - 4) = n - 4 := by rw [IntKind.wrap_i64]; omega
      have e2 : IntKind.u64.wrap ((n : Int) - 4) = n - 4 := by rw [IntKind.wrap_u64]; omega
      have hgt : (n : Int) - 4 < a := by omega
      go_wp2
      go_ret
      exact ⟨rfl, HB2.out.trans ((Below.box _ _).mono HB2.out.size)⟩

set_option maxRecDepth 20000 in
set_option maxHeartbeats 12800000 in
theorem saves_3 (x a wide : Int) (A : Option Addr) (n cap : Nat) (data : List Int) (w : World) (ho : Ops w) (hd : BySl w A n cap data) (x0 : 0 ≤ x) (x1 : x < 18446744073709551616) (a0 : 0 ≤ a) (a1 : a < 18446744073709551616) (w0 : 0 ≤ wide) (hj : wide % 4 = 3) :
    Calls Tryd.prog 7 #[.int .u64 x, .int .u64 a, .slice A n cap, .int .u8 wide] w fun e w' => e = .returned (.bool true) ∧ Below w.heap.size w w' := by
  have hp := ho.pos
  have hdl := hd.hlen
  have hle := hd.hle
  have hcp := hd.hcap
  have hrem : wide.tmod 4 = 3 := by rw [Int.tmod_eq_emod_of_nonneg w0, hj]
  have haw : ∀ W, Below w.heap.size w W → Calls Tryd.prog 10 #[] W fun e w' => e = .returned (.bool true) ∧ Below W.heap.size W w' := fun W hW => mc_awake W (ho.below hW hp)
  have hrun : ∀ (v : World) (o0 o3 : Obj), n ≤ 64 → Below w.heap.size w v → Calls Tryd.prog 12 #[.agg #[.int .i64 n, .int .i64 0, .int .i64 0, .slice A n cap, .slice (some ⟨v.heap.size + 1, 0, none⟩) 1 1, .slice (some ⟨v.heap.size + 1 + 1, 0, none⟩) 5 5], .slice none 0 0, .int .i64 10] ((((v.alloc o0).alloc (.cells #[.int .i64 0] 3)).alloc (.cells #[.int .i64 1, .int .i64 1, .int .i64 0, .int .i64 0, .int .u64 x, .int .i64 1, .int .i64 2, .int .i64 0, .int .i64 0, .int .u64 a, .int .i64 18, .int .i64 1, .int .i64 2, .int .i64 8, .int .u64 0, .int .i64 17, .int .i64 3, .int .i64 2, .int .i64 8, .int .u64 0, .int .i64 0, .int .i64 0, .int .i64 0, .int .i64 0, .int .u64 0] 59)).alloc o3) (RunA (Mc.answer (Mc.sp x a data 8) [] 10) ((((v.alloc o0).alloc (.cells #[.int .i64 0] 3)).alloc (.cells #[.int .i64 1, .int .i64 1, .int .i64 0, .int .i64 0, .int .u64 x, .int .i64 1, .int .i64 2, .int .i64 0, .int .i64 0, .int .u64 a, .int .i64 18, .int .i64 1, .int .i64 2, .int .i64 8, .int .u64 0, .int .i64 17, .int .i64 3, .int .i64 2, .int .i64 8, .int .u64 0, .int .i64 0, .int .i64 0, .int .i64 0, .int .i64 0, .int .u64 0] 59)).alloc o3)) := fun v o0 o3 hn hW => by
    have h1 : Below w.heap.size w ((((v.alloc o0).alloc (.cells #[.int .i64 0] 3)).alloc (.cells #[.int .i64 1, .int .i64 1, .int .i64 0, .int .i64 0, .int .u64 x, .int .i64 1, .int .i64 2, .int .i64 0, .int .i64 0, .int .u64 a, .int .i64 18, .int .i64 1, .int .i64 2, .int .i64 8, .int .u64 0, .int .i64 17, .int .i64 3, .int .i64 2, .int .i64 8, .int .u64 0, .int .i64 0, .int .i64 0, .int .i64 0, .int .i64 0, .int .u64 0] 59)).alloc o3) := hW.trans ((((((Below.refl _ _).alloc (Nat.le_refl _) _).alloc (by simp) _).alloc (by simp; omega) _).alloc (by simp; omega) _).mono hW.size)
    exact run_any ⟨n, 0, 0, A, n, cap, some ⟨v.heap.size + 1, 0, none⟩, 1, 1, some ⟨v.heap.size + 1 + 1, 0, none⟩, 5, 5, none, 0, 0, Mc.sp x a data 8, []⟩ 10 _ (ho.below h1 hp) (sp_at v A n cap data x a 8 o0 (hd.below hW) x0 x1 a0 a1 o3)
  have hn4 : (8 = 1 ∨ 8 = 2 ∨ 8 = 4 ∨ 8 = 8) := by decide
  have hout := Mc.sp_out (x := x) (a := a) (data := data) (n := 8) hn4
  have hinn := Mc.sp_in (x := x) (a := a) (data := data) (n := 8) hn4
  generalize Mc.answer (Mc.sp x a data 8) [] 10 = r at *
  obtain ⟨pa, en, rg, mm, er⟩ := r
  unfold maxLen at hcp
  have HAW := Lib.hid haw
  have HRUN := Lib.hid hrun
  have HOUT := Lib.hid hout
  have HIN := Lib.hid hinn
  have HD := Lib.hid hd
  have HDL := Lib.hid hdl
  have HXA := Lib.hid (And.intro (And.intro x0 x1) (And.intro a0 a1))
  clear haw hrun hout hinn hd hdl x0 x1 hj w0 ho hn4
  go_enter Tryd.func7, Tryd.ntmps7
  go_wp2_with fail
  refine (HAW.out _ (Below.refl _ _)).mono ?_
  rintro e v ⟨rfl, hb⟩
  have HB := Lib.hid hb
  clear hb
  by_cases h64 : (64 : Int) < n
  · go_wp2
    go_ret
    exact ⟨rfl, HB.out.trans ((Below.box _ _).mono HB.out.size)⟩
  go_wp2_with fail
  have hn64 : n ≤ 64 := by omega
  have hvz : Below v.heap.size v ((((v.alloc (.cells #[.int .i64 1, .int .i64 2, .int .i64 4, .int .i64 8] 3)).alloc (.cells #[.int .i64 0] 3)).alloc (.cells #[.int .i64 1, .int .i64 1, .int .i64 0, .int .i64 0, .int .u64 x, .int .i64 1, .int .i64 2, .int .i64 0, .int .i64 0, .int .u64 a, .int .i64 18, .int .i64 1, .int .i64 2, .int .i64 8, .int .u64 0, .int .i64 17, .int .i64 3, .int .i64 2, .int .i64 8, .int .u64 0, .int .i64 0, .int .i64 0, .int .i64 0, .int .i64 0, .int .u64 0] 59)).alloc (.cells #[.int .i64 n, .int .i64 0, .int .i64 0, .slice A n cap, .slice (some ⟨v.heap.size + 1, 0, none⟩) 1 1, .slice (some ⟨v.heap.size + 1 + 1, 0, none⟩) 5 5] 26)) := ((((Below.refl _ _).alloc (Nat.le_refl _) _).alloc (by simp) _).alloc (by simp; omega) _).alloc (by simp; omega) _
  have HV4 := Lib.hid hvz
  clear hvz
  by_cases hin : a + (8 : Nat) ≤ data.length
  · have hr := HIN.out (by rw [HDL.out]; omega) a0 a1 (by omega)
    simp only [Prod.mk.injEq] at hr
    obtain ⟨g1, g2, g3, g4, g5⟩ := hr
    rw [HDL.out] at hin
    obtain ⟨k, hk⟩ := Int.eq_ofNat_of_zero_le a0
    have hkn : k + 8 ≤ n := by omega
    have hkd : k + 8 ≤ data.length := by rw [HDL.out]; exact hkn
    have hkt : a.toNat = k := by omega
    rw [hkt] at g4
    have hml : mm.length = n := by rw [g4, Mc.sav_len hkd, HDL.out]
    have htk : mm.take k = data.take k := by rw [g4, Mc.sav_take' hkd]
    have hdr : mm.drop (k + 8) = data.drop (k + 8) := by rw [g4, Mc.sav_drop' hkd]
    obtain ⟨c, hc⟩ : ∃ c, x % 256 ^ 8 = c := ⟨_, rfl⟩
    rw [hc] at g3
    have hcut : c = x := by rw [← hc]; exact Int.emod_eq_of_lt HXA.out.1.1 HXA.out.1.2
    subst hcut
    subst g1 g2 g3 g5
    clear hc g4 hkt hkd
    refine (HRUN.out v _ _ hn64 HB.out).mono ?_
    rintro e v2 ⟨pA, pcap, mA, mcap, rfl, hpt, hby, hb⟩
    simp only [trC, List.getD_cons_zero, List.getD_cons_succ, List.length_cons, List.length_nil, hml] at hby ⊢
    have hB2 := HV4.out.trans (hb.mono HV4.out.size)
    have hD2 := HD.out.below (HB.out.trans (hB2.mono HB.out.size))
    obtain ⟨V1, s1, t1⟩ := cut_hi mA n mcap k (by omega) hby.hle
    obtain ⟨V2, s2, t2⟩ := cut_hi A n cap k (by omega) hle
    obtain ⟨V3, s3, t3⟩ := cut_lo mA n mcap (k + 8) hkn hby.hle
    obtain ⟨V4, s4, t4⟩ := cut_lo A n cap (k + 8) hkn hle
    have c1 : ∀ o m, (convert 22 9 V1).run Tryd.prog ((v2.alloc o).drewN m) = .ok (.string (strOfNums (data.take k))) ((v2.alloc o).drewN m) := fun o m => by rw [← htk]; exact t1 _ mm (hby.below (below_drewN (Below.box _ _) m))
    have c2 : ∀ o m, (convert 22 9 V2).run Tryd.prog ((v2.alloc o).drewN m) = .ok (.string (strOfNums (data.take k))) ((v2.alloc o).drewN m) := fun o m => t2 _ data (hD2.below (below_drewN (Below.box _ _) m))
    have c3 : ∀ o m, (convert 22 9 V3).run Tryd.prog ((v2.alloc o).drewN m) = .ok (.string (strOfNums (data.drop (k + 8)))) ((v2.alloc o).drewN m) := fun o m => by rw [← hdr]; exact t3 _ mm (hby.below (below_drewN (Below.box _ _) m))
    have c4 : ∀ o m, (convert 22 9 V4).run Tryd.prog ((v2.alloc o).drewN m) = .ok (.string (strOfNums (data.drop (k + 8)))) ((v2.alloc o).drewN m) := fun o m => t4 _ data (hD2.below (below_drewN (Below.box _ _) m))
    have ekw : ((k + 8 : Nat) : Int) = (k : Int) + 8 := by omega
    rw [ekw] at s3 s4
    generalize strOfNums (data.take k) = S1 at *
    generalize strOfNums (data.drop (k + 8)) = S2 at *
    have HB2 := Lib.hid (HB.out.trans (hB2.mono HB.out.size))
    clear hpt hby hb hB2 hD2 t1 t2 t3 t4 htk hdr hml ekw
    subst hk
    have hlt : ¬ (n : Int) < 8 := by omega
    have e1 : IntKind.i64.wrap ((n : Int) - 8) = n - 8 := by rw [IntKind.wrap_i64]; omega
    have e2 : IntKind.u64.wrap ((n : Int) - 8) = n - 8 := by rw [IntKind.wrap_u64]; omega
    have e3 : IntKind.i64.wrap (k : Int) = k := by rw [IntKind.wrap_i64]; omega
    have e4 : IntKind.i64.wrap ((k : Int) + 8) = k + 8 := by rw [IntKind.wrap_i64]; omega
    have hgt : ¬ (n : Int) - 8 < k := by omega
    go_wp2
    go_quiet (fail)
    go_wp2
    go_ret
    exact ⟨rfl, HB2.out.trans (below_drewN ((Below.box _ _).mono HB2.out.size) nq)⟩
  · have hr := HOUT.out (by rw [HDL.out]; omega) a0 a1 (by omega)
    simp only [Prod.mk.injEq] at hr
    obtain ⟨g1, g2, g3, g4, g5⟩ := hr
    have g4 := g4.symm
    subst g1 g2 g3 g4 g5
    refine (HRUN.out v _ _ hn64 HB.out).mono ?_
    rintro e v2 ⟨pA, pcap, mA, mcap, rfl, hpt, hby, hb⟩
    rw [HDL.out] at hin
    simp only [trC, List.getD_cons_zero, List.getD_cons_succ, List.length_cons, List.length_nil, HDL.out] at hby ⊢
    have hB2 := HV4.out.trans (hb.mono HV4.out.size)
    have hs1 : ∀ o, (convert 22 9 (.slice mA n mcap)).run Tryd.prog (v2.alloc o) = .ok (.string (strOfNums data)) (v2.alloc o) := fun o => by_str (hby.below (Below.box _ _))
    have hs2 : ∀ o, (convert 22 9 (.slice A n cap)).run Tryd.prog (v2.alloc o) = .ok (.string (strOfNums data)) (v2.alloc o) := fun o => by_str ((HD.out.below (HB.out.trans (hB2.mono HB.out.size))).below (Below.box _ _))
    generalize strOfNums data = S at *
    have HB2 := Lib.hid (HB.out.trans (hB2.mono HB.out.size))
    clear hpt hby hb hB2
    by_cases hlt : (n : Int) < 8
    · go_wp2
      go_ret
      exact ⟨rfl, HB2.out.trans ((Below.box _ _).mono HB2.out.size)⟩
    · have e1 : IntKind.i64.wrap ((n : Int) - 8) = n - 8 := by rw [IntKind.wrap_i64]; omega
      have e2 : IntKind.u64.wrap ((n : Int) - 8) = n - 8 := by rw [IntKind.wrap_u64]; omega
      have hgt : (n : Int) - 8 < a := by omega
      go_wp2
      go_ret
      exact ⟨rfl, HB2.out.trans ((Below.box _ _).mono HB2.out.size)⟩

theorem saves_walk (x a wide : Int) (A : Option Addr) (n cap : Nat) (data : List Int) (w : World) (ho : Ops w) (hd : BySl w A n cap data) (x0 : 0 ≤ x) (x1 : x < 18446744073709551616) (a0 : 0 ≤ a) (a1 : a < 18446744073709551616) (w0 : 0 ≤ wide) :
    Calls Tryd.prog 7 #[.int .u64 x, .int .u64 a, .slice A n cap, .int .u8 wide] w fun e w' => e = .returned (.bool true) ∧ Below w.heap.size w w' := by
  have h : wide % 4 = 0 ∨ wide % 4 = 1 ∨ wide % 4 = 2 ∨ wide % 4 = 3 := by omega
  rcases h with h | h | h | h
  · exact saves_0 x a wide A n cap data w ho hd x0 x1 a0 a1 w0 h
  · exact saves_1 x a wide A n cap data w ho hd x0 x1 a0 a1 w0 h
  · exact saves_2 x a wide A n cap data w ho hd x0 x1 a0 a1 w0 h
  · exact saves_3 x a wide A n cap data w ho hd x0 x1 a0 a1 w0 h
end Go.Proofs.YthkhadbeomkihaaDoor
