/-
  Layer 11: the reference's Apply, all.
-/
import Derived.Test.YtbjckcjfambpoaaSnGC
set_option linter.unusedSimpArgs false
set_option linter.unusedVariables false
namespace Go.Proofs.Ytbjckcjfambpoaa
set_option linter.unusedSimpArgs false
set_option linter.unusedVariables false
open Go.RowKit Go.Maps
set_option maxRecDepth 100000

set_option maxHeartbeats 51200000 in
theorem rapS_all (op a : Int) (x y : Sn.S) (hyp : (op < 5 ∨ 21 < op ∨ op = 6 ∨ op = 7) ∨ ((5 ≤ op ∧ op ≤ 21 ∧ op ≠ 6 ∧ op ≠ 7) ∧ (Sn.rt a x).1 = (Sn.rt a x).2 ∧ (op = 5 ∨ (Sn.rt a y).1 = (Sn.rt a y).2)) ∨ ((op = 5 ∨ op = 8 ∨ op = 9 ∨ op = 10) ∧ ¬ ((Sn.rt a x).1 = (Sn.rt a x).2 ∧ (op = 5 ∨ (Sn.rt a y).1 = (Sn.rt a y).2))) ∨ ((op = 11 ∨ op = 12 ∨ op = 13 ∨ op = 14 ∨ op = 15) ∧ ¬ ((Sn.rt a x).1 = (Sn.rt a x).2 ∧ (op = 5 ∨ (Sn.rt a y).1 = (Sn.rt a y).2))) ∨ ((op = 16 ∨ op = 17 ∨ op = 18) ∧ ¬ ((Sn.rt a x).1 = (Sn.rt a x).2 ∧ (op = 5 ∨ (Sn.rt a y).1 = (Sn.rt a y).2))) ∨ ((op = 19 ∨ op = 20 ∨ op = 21) ∧ ¬ ((Sn.rt a x).1 = (Sn.rt a x).2 ∧ (op = 5 ∨ (Sn.rt a y).1 = (Sn.rt a y).2)))) (hpx : Sn.Ok a (Sn.rt a x)) (hpy : Sn.Ok a (Sn.rt a y)) (w : World) :
    Calls Try.prog 10 #[.int .i64 op, .int .i64 a, Sn.v x, Sn.v y] w fun e w' => e = .returned (Sn.v (Sn.ap op a (Sn.rt a x) (Sn.rt a y))) ∧ Below w.heap.size w w' := by
  obtain ⟨x1, x2⟩ := x
  obtain ⟨y1, y2⟩ := y
  have hX := fun W => rright_any (Wd.wid a) (x1, x2) W
  have hY := fun W => rright_any (Wd.wid a) (y1, y2) W
  have hM := fun W => rmask_all (Wd.wid a) W
  simp only [Sn.rt_wid] at hX hY
  simp only [Wd.msk_wid] at hM
  have HX := Lib.hid hX
  have HY := Lib.hid hY
  have HM := Lib.hid hM
  clear hX hY hM
  generalize Sn.rt a (x1, x2) = rx at *
  generalize Sn.rt a (y1, y2) = ry at *
  obtain ⟨p1, p2⟩ := rx
  obtain ⟨q1, q2⟩ := ry
  have hbx := hpx
  have hby := hpy
  unfold Sn.Ok at hbx hby
  dsimp only at hbx hby
  have hmm := Wd.msk_hi a
  have hres : (p1 = p2 ∧ (op = 5 ∨ q1 = q2)) → Sn.ap op a (p1, p2) (q1, q2) = (Wd.app op a p1 q1, Wd.app op a p1 q1) := by
    rintro ⟨hp, h5⟩
    by_cases hq : q1 = q2
    · exact if_pos ⟨hp, hq⟩
    · have e5 : op = 5 := h5.resolve_right hq
      subst e5
      rw [Sn.ap_tab (fun h => hq h.2), Wd.app5, Sn.cut_w a _ (by omega) (by omega)]
      subst hp
      rfl
  have HA := fun W => rapply_w op a p1 q1 (by omega) (by omega) (by omega) (by omega) W
  obtain ⟨t, ht⟩ : ∃ t, Wd.app op a p1 q1 = t := ⟨_, rfl⟩
  rw [ht] at hres
  simp only [ht] at HA
  have HRESP := Lib.hid hres
  have HHA := Lib.hid HA
  clear hres HA ht hbx hby hmm
  have hTS := fun hk => Sn.sum_tab op a (p1, p2) (q1, q2) hk
  have hCS := fun W => rsums_any op a (p1, p2) (q1, q2) hpx hpy W
  generalize Sn.sumR op a (p1, p2) (q1, q2) = R at *
  obtain ⟨⟨r1S, r2S⟩, okS⟩ := R
  have HTS := Lib.hid hTS
  have HCS := Lib.hid hCS
  have hTP := Sn.par_tab op a (p1, p2) (q1, q2)
  have hCP := fun hk W => rparts_any op a (p1, p2) (q1, q2) hk hpx hpy W
  generalize Sn.parR op a (p1, p2) (q1, q2) = R at *
  obtain ⟨⟨r1P, r2P⟩, okP⟩ := R
  have HTP := Lib.hid hTP
  have HCP := Lib.hid hCP
  have hTH := fun hk => Sn.shi_tab op a (p1, p2) (q1, q2) hk
  have hCH := fun hk W => rshifts_any op a (p1, p2) (q1, q2) hk hpx hpy W
  generalize Sn.shiR op a (p1, p2) (q1, q2) = R at *
  obtain ⟨⟨r1H, r2H⟩, okH⟩ := R
  have HTH := Lib.hid hTH
  have HCH := Lib.hid hCH
  have hTT := fun hk => Sn.tru_tab op a (p1, p2) (q1, q2) hk
  have hCT := fun hk W => rtruths_any op a (p1, p2) (q1, q2) hk hpx hpy W
  have h012 := Sn.tru_012 op a (p1, p2) (q1, q2)
  generalize Sn.tru op a (p1, p2) (q1, q2) = o at *
  have H012 := Lib.hid h012
  have HTT := Lib.hid hTT
  have HCT := Lib.hid hCT
  clear hTS hCS hTP hCP hTH hCH hTT hCT h012
  show Calls Try.prog 10 #[.int .i64 op, .int .i64 a, .agg #[.int .u64 x1, .int .u64 x2], .agg #[.int .u64 y1, .int .u64 y2]] w _
  have HYP := Lib.hid hyp
  clear hyp
  go_enter Try.func10, Try.ntmps10
  go_upto_region 1 with (fail)
  have hB : Below w.heap.size w (((w.alloc (.cells #[.int .u64 x1, .int .u64 x2] 24)).alloc (.cells #[.int .u64 y1, .int .u64 y2] 24)).alloc (.cells #[.int .u64 0, .int .u64 0] 24)) := ((((Below.refl _ _).alloc (Nat.le_refl _) _).alloc (by simp) _).alloc (by simp; omega) _)
  have hr0 : Sn.Bk (((w.alloc (.cells #[.int .u64 x1, .int .u64 x2] 24)).alloc (.cells #[.int .u64 y1, .int .u64 y2] 24)).alloc (.cells #[.int .u64 0, .int .u64 0] 24)) (w.heap.size) 24 #[.int .u64 x1, .int .u64 x2] := Sn.bk_old (Sn.bk_old (Sn.bk_new _ _ _) _) _
  have hr1 : Sn.Bk (((w.alloc (.cells #[.int .u64 x1, .int .u64 x2] 24)).alloc (.cells #[.int .u64 y1, .int .u64 y2] 24)).alloc (.cells #[.int .u64 0, .int .u64 0] 24)) (w.heap.size + 1) 24 #[.int .u64 y1, .int .u64 y2] := Sn.bk_old (Sn.bk_at (by simp)) _
  have hr2 : Sn.Bk (((w.alloc (.cells #[.int .u64 x1, .int .u64 x2] 24)).alloc (.cells #[.int .u64 y1, .int .u64 y2] 24)).alloc (.cells #[.int .u64 0, .int .u64 0] 24)) (w.heap.size + 1 + 1) 24 #[.int .u64 0, .int .u64 0] := Sn.bk_at (by simp)
  generalize (((w.alloc (.cells #[.int .u64 x1, .int .u64 x2] 24)).alloc (.cells #[.int .u64 y1, .int .u64 y2] 24)).alloc (.cells #[.int .u64 0, .int .u64 0] 24)) = v at *
  have HB := Lib.hid hB
  have HR0 := Lib.hid hr0
  have HR1 := Lib.hid hr1
  have HR2 := Lib.hid hr2
  clear hB hr0 hr1 hr2
  go_wp2_with fail
  refine (wd_rwidth_w a v).mono ?_
  rintro e w9 ⟨rfl, rfl⟩
  rename World => v
  go_wp2_with fail
  refine (HM.out v).mono ?_
  rintro e v2 ⟨rfl, hb⟩
  have hr0 := Sn.bk_below HR0.out hb (Sn.bk_lt HR0.out)
  have hr1 := Sn.bk_below HR1.out hb (Sn.bk_lt HR1.out)
  have hr2 := Sn.bk_below HR2.out hb (Sn.bk_lt HR2.out)
  have hB := Sn.below_next HB.out hb HB.out.size
  clear HB HR0 HR1 HR2 hb
  have HB := Lib.hid hB
  have HR0 := Lib.hid hr0
  have HR1 := Lib.hid hr1
  have HR2 := Lib.hid hr2
  clear hB hr0 hr1 hr2
  clear v
  rename World => v
  go_wp2_with fail
  refine held_tail (S := fun W => Below v.heap.size v W) 8 (by kernel_rfl) (by simp) (Below.refl _ _).drew (fun hHeld => ?_)
  refine headS_take (i := 0) (v := .int .i64 (Wd.wid a)) rfl (by kernel_rfl) (fun _ _ _ h => h) (Or.inl ⟨by rfl, fun W hW => ?_⟩) hHeld ?_
  · (try dsimp only at hW)
    go_simp
  try simp only [Act.put, List.setIfInBounds_toArray, List.set_cons_zero, List.set_cons_succ]
  refine headS_take (i := 1) (v := .agg #[.int .u64 x1, .int .u64 x2]) rfl (by kernel_rfl) (fun _ _ _ h => h) (Or.inl ⟨by rfl, fun W hW => ?_⟩) hHeld ?_
  · (try dsimp only at hW)
    obtain ⟨y0, y1⟩ := Sn.c2 HR0.out hW
    go_simp
  try simp only [Act.put, List.setIfInBounds_toArray, List.set_cons_zero, List.set_cons_succ]
  refine headS_take (i := 3) (v := .int .i64 (Wd.wid a)) rfl (by kernel_rfl) (fun _ _ _ h => h) (Or.inl ⟨by rfl, fun W hW => ?_⟩) hHeld ?_
  · (try dsimp only at hW)
    go_simp
  try simp only [Act.put, List.setIfInBounds_toArray, List.set_cons_zero, List.set_cons_succ]
  refine headS_take (i := 4) (v := .agg #[.int .u64 y1, .int .u64 y2]) rfl (by kernel_rfl) (fun _ _ _ h => h) (Or.inl ⟨by rfl, fun W hW => ?_⟩) hHeld ?_
  · (try dsimp only at hW)
    obtain ⟨y0, y1⟩ := Sn.c2 HR1.out hW
    go_simp
  try simp only [Act.put, List.setIfInBounds_toArray, List.set_cons_zero, List.set_cons_succ]
  refine headS_rest (fun b c W => Below v.heap.size v W ∧ b ≠ c ∧ v.heap.size ≤ b ∧ v.heap.size ≤ c ∧ Sn.Bk W b 24 #[.int .u64 0, .int .u64 0] ∧ Sn.Bk W c 24 #[.int .u64 0, .int .u64 0]) (fun b c => #[.int .i64 op, .int .i64 a, .agg #[.int .u64 x1, .int .u64 x2], .agg #[.int .u64 y1, .int .u64 y2], undef, undef, .pointer (some ⟨w.heap.size, 0, none⟩), .pointer (some ⟨w.heap.size + 1, 0, none⟩), .pointer (some ⟨w.heap.size + 1 + 1, 0, none⟩), .int .i64 (Wd.wid a), .int .u64 (Wd.msk a), .pointer (some ⟨b, 0, none⟩), .pointer (some ⟨c, 0, none⟩), undef, undef, undef, undef, .int .i64 a, .int .i64 (Wd.wid a), .int .i64 (Wd.wid a), .int .u64 (Wd.msk a), .int .i64 (Wd.wid a), .agg #[.int .u64 x1, .int .u64 x2], .agg #[.int .u64 p1, .int .u64 p2], .int .i64 (Wd.wid a), .agg #[.int .u64 y1, .int .u64 y2], .agg #[.int .u64 q1, .int .u64 q2], undef, undef, undef, undef, undef, undef, undef, undef, undef, undef, undef, undef, undef, undef, undef, undef, undef, undef, undef, undef, undef, undef, undef, undef, undef, undef, undef, undef, undef, undef, undef, undef, undef, undef, undef, undef, undef, undef, undef, undef, undef, undef, undef, undef, undef, undef, undef, undef, undef, undef, undef, undef, undef, undef, undef, undef, undef, undef, undef, undef, undef, undef, undef, undef, undef, undef, undef, undef, undef, undef, undef, undef, undef, undef, undef, undef, undef, undef, undef, undef, undef, undef, undef, undef, undef, undef, undef, undef, undef, undef, undef, undef]) ?_ ?_
  · rintro b c u ⟨hjb, hbc, hvb, hvc, hkb, hkc⟩
    simp only [List.drop_succ_cons, List.drop_zero]
    clear hHeld
    clear HR0 HR1
    have hbw := HB.out.size
    have l2 := Sn.bk_lt HR2.out
    have hr2 := Sn.bk_below HR2.out hjb (Sn.bk_lt HR2.out)
    have hB := Sn.below_next HB.out hjb HB.out.size
    clear HB HR2 hjb
    have HB := Lib.hid hB
    have HR2 := Lib.hid hr2
    clear hB hr2
    have H1C := Lib.hid (show (#[.int .u64 p1, .int .u64 p2] : Array Value).all (·.oneCell') = true by simp [Value.oneCell'])
    have H2C := Lib.hid (show (#[.int .u64 q1, .int .u64 q2] : Array Value).all (·.oneCell') = true by simp [Value.oneCell'])
    refine Sn.store_sp (.tmp 11) (.tmp 23) b #[.int .u64 0, .int .u64 0] #[.int .u64 p1, .int .u64 p2] hkb rfl rfl rfl rfl rfl rfl H1C.out ?_
    refine Sn.store_sp (.tmp 12) (.tmp 26) c #[.int .u64 0, .int .u64 0] #[.int .u64 q1, .int .u64 q2] (Sn.bk_row_other hkc (by omega) _) rfl rfl rfl rfl rfl rfl H2C.out ?_
    have hB : Below w.heap.size w ((u.setRow b #[.int .u64 p1, .int .u64 p2]).setRow c #[.int .u64 q1, .int .u64 q2]) := Sn.below_set (Sn.below_set HB.out (by omega) _) (by omega) _
    have hr2 : Sn.Bk ((u.setRow b #[.int .u64 p1, .int .u64 p2]).setRow c #[.int .u64 q1, .int .u64 q2]) (w.heap.size + 1 + 1) 24 #[.int .u64 0, .int .u64 0] := Sn.bk_row_other (Sn.bk_row_other HR2.out (by omega) _) (by omega) _
    have hr3 : Sn.Bk ((u.setRow b #[.int .u64 p1, .int .u64 p2]).setRow c #[.int .u64 q1, .int .u64 q2]) b 24 #[.int .u64 p1, .int .u64 p2] := Sn.bk_row_other (Sn.bk_row hkb _) (by omega) _
    have hr4 : Sn.Bk ((u.setRow b #[.int .u64 p1, .int .u64 p2]).setRow c #[.int .u64 q1, .int .u64 q2]) c 24 #[.int .u64 q1, .int .u64 q2] := Sn.bk_row (Sn.bk_row_other hkc (by omega) _) _
    clear HB HR2 H1C H2C hkb hkc hbc hvb hvc hbw l2
    generalize ((u.setRow b #[.int .u64 p1, .int .u64 p2]).setRow c #[.int .u64 q1, .int .u64 q2]) = v3 at *
    have HB := Lib.hid hB
    have HR2 := Lib.hid hr2
    have HR3 := Lib.hid hr3
    have HR4 := Lib.hid hr4
    clear hB hr2 hr3 hr4
    clear v u
    rename World => v
    have hm := Wd.msk_hi a
    have hx2 := hpx
    have hy2 := hpy
    unfold Sn.Ok at hx2 hy2
    dsimp only at hx2 hy2
    have hyp := HYP.out
    clear HYP
    (try dsimp only at hyp)
    rcases hyp with hyp | hyp | hyp | hyp | hyp | hyp
    · clear HRESP HHA HTS HCS HTP HCP HTH HCH HTT HCT H012
      by_cases hn1 : op < 5
      · have o1 : decide (op < 5) = true := by simpa using hn1
        have HRES := Lib.hid (show Sn.ap op a (p1, p2) (q1, q2) = (0, 0) from Sn.ap_none (.inl hn1))
        have c3_0 := Sn.bk_c HR3.out 0
        have c3_1 := Sn.bk_c HR3.out 1
        have c4_0 := Sn.bk_c HR4.out 0
        have c4_1 := Sn.bk_c HR4.out 1
        simp only [List.getElem?_toArray, List.getElem?_cons_zero, List.getElem?_cons_succ] at c3_0 c3_1 c4_0 c4_1
        go_wp2_with (with_reducible refine Sn.store_sp (.tmp 8) (.tmp 41) (w.heap.size + 1 + 1) #[.int .u64 0, .int .u64 0] #[.int .u64 0, .int .u64 0] HR2.out rfl rfl rfl rfl rfl rfl (by simp [Value.oneCell']) ?_)
        refine Sn.ret_sp (w.heap.size + 1 + 1) _ (Sn.bk_row HR2.out _) rfl rfl rfl rfl ?_
        exact ⟨by first | (rw [HRES.out]; done) | (rw [HRES.out]; rfl), Sn.below_set HB.out (by omega) _⟩
      by_cases hn2 : 21 < op
      · have o1 : decide (op < 5) = false := by simpa using hn1
        have o2 : decide (op > 21) = true := by simpa using hn2
        have HRES := Lib.hid (show Sn.ap op a (p1, p2) (q1, q2) = (0, 0) from Sn.ap_none (.inr (.inl hn2)))
        have c3_0 := Sn.bk_c HR3.out 0
        have c3_1 := Sn.bk_c HR3.out 1
        have c4_0 := Sn.bk_c HR4.out 0
        have c4_1 := Sn.bk_c HR4.out 1
        simp only [List.getElem?_toArray, List.getElem?_cons_zero, List.getElem?_cons_succ] at c3_0 c3_1 c4_0 c4_1
        go_wp2_with (with_reducible refine Sn.store_sp (.tmp 8) (.tmp 41) (w.heap.size + 1 + 1) #[.int .u64 0, .int .u64 0] #[.int .u64 0, .int .u64 0] HR2.out rfl rfl rfl rfl rfl rfl (by simp [Value.oneCell']) ?_)
        refine Sn.ret_sp (w.heap.size + 1 + 1) _ (Sn.bk_row HR2.out _) rfl rfl rfl rfl ?_
        exact ⟨by first | (rw [HRES.out]; done) | (rw [HRES.out]; rfl), Sn.below_set HB.out (by omega) _⟩
      by_cases hn3 : op = 6 ∨ op = 7
      · have HRES := Lib.hid (show Sn.ap op a (p1, p2) (q1, q2) = (0, 0) from Sn.ap_none (.inr (.inr hn3)))
        rcases hn3 with h | h <;> subst h
        all_goals
          have c3_0 := Sn.bk_c HR3.out 0
          have c3_1 := Sn.bk_c HR3.out 1
          have c4_0 := Sn.bk_c HR4.out 0
          have c4_1 := Sn.bk_c HR4.out 1
          simp only [List.getElem?_toArray, List.getElem?_cons_zero, List.getElem?_cons_succ] at c3_0 c3_1 c4_0 c4_1
          go_wp2_with (with_reducible refine Sn.store_sp (.tmp 8) (.tmp 41) (w.heap.size + 1 + 1) #[.int .u64 0, .int .u64 0] #[.int .u64 0, .int .u64 0] HR2.out rfl rfl rfl rfl rfl rfl (by simp [Value.oneCell']) ?_)
          refine Sn.ret_sp (w.heap.size + 1 + 1) _ (Sn.bk_row HR2.out _) rfl rfl rfl rfl ?_
          exact ⟨by first | (rw [HRES.out]; done) | (rw [HRES.out]; rfl), Sn.below_set HB.out (by omega) _⟩
      exact absurd hyp (by omega)
    · obtain ⟨hn, hp, hq5⟩ := hyp
      have HRES := Lib.hid (HRESP.out ⟨hp, hq5⟩)
      clear HRESP HTS HCS HTP HCP HTH HCH HTT HCT H012
      by_cases h5 : op = 5
      · clear hq5
        have o1 : decide (op < 5) = false := by simp; omega
        have o2 : decide (op > 21) = false := by simp; omega
        have o3 : (op == 6) = false := by simp; omega
        have o4 : (op == 7) = false := by simp; omega
        have k1 : (p1 == p2) = true := by simp; exact hp
        have o5 : (op == 5) = true := by simp; omega
        clear hp hn h5 
        have c3_0 := Sn.bk_c HR3.out 0
        have c3_1 := Sn.bk_c HR3.out 1
        have c4_0 := Sn.bk_c HR4.out 0
        have c4_1 := Sn.bk_c HR4.out 1
        simp only [List.getElem?_toArray, List.getElem?_cons_zero, List.getElem?_cons_succ] at c3_0 c3_1 c4_0 c4_1
        go_wp2_with fail
        clear c3_0 c3_1 c4_0 c4_1
        refine (HHA.out v).mono ?_
        rintro e v2 ⟨rfl, hb⟩
        have hr2 := Sn.bk_below HR2.out hb (Sn.bk_lt HR2.out)
        have hr3 := Sn.bk_below HR3.out hb (Sn.bk_lt HR3.out)
        have hr4 := Sn.bk_below HR4.out hb (Sn.bk_lt HR4.out)
        have hB := Sn.below_next HB.out hb HB.out.size
        clear HB HR2 HR3 HR4 hb
        have HB := Lib.hid hB
        have HR2 := Lib.hid hr2
        have HR3 := Lib.hid hr3
        have HR4 := Lib.hid hr4
        clear hB hr2 hr3 hr4
        clear v
        rename World => v
        go_wp2_with (with_reducible refine Sn.store_sp (.tmp 8) (.tmp 67) (w.heap.size + 1 + 1) #[.int .u64 0, .int .u64 0] #[.int .u64 t, .int .u64 t] HR2.out rfl rfl rfl rfl rfl rfl (by simp [Value.oneCell']) ?_)
        refine Sn.ret_sp (w.heap.size + 1 + 1) _ (Sn.bk_row HR2.out _) rfl rfl rfl rfl ?_
        exact ⟨by first | (rw [HRES.out]; done) | (rw [HRES.out]; rfl), Sn.below_set HB.out (by omega) _⟩
      have hq : q1 = q2 := hq5.resolve_left h5
      clear hq5
      have o1 : decide (op < 5) = false := by simp; omega
      have o2 : decide (op > 21) = false := by simp; omega
      have o3 : (op == 6) = false := by simp; omega
      have o4 : (op == 7) = false := by simp; omega
      have k1 : (p1 == p2) = true := by simp; exact hp
      have o5 : (op == 5) = false := by simp; omega
      have k2 : (q1 == q2) = true := by simp; exact hq
      clear hp hn h5 hq
      have c3_0 := Sn.bk_c HR3.out 0
      have c3_1 := Sn.bk_c HR3.out 1
      have c4_0 := Sn.bk_c HR4.out 0
      have c4_1 := Sn.bk_c HR4.out 1
      simp only [List.getElem?_toArray, List.getElem?_cons_zero, List.getElem?_cons_succ] at c3_0 c3_1 c4_0 c4_1
      go_wp2_with fail
      clear c3_0 c3_1 c4_0 c4_1
      refine (HHA.out v).mono ?_
      rintro e v2 ⟨rfl, hb⟩
      have hr2 := Sn.bk_below HR2.out hb (Sn.bk_lt HR2.out)
      have hr3 := Sn.bk_below HR3.out hb (Sn.bk_lt HR3.out)
      have hr4 := Sn.bk_below HR4.out hb (Sn.bk_lt HR4.out)
      have hB := Sn.below_next HB.out hb HB.out.size
      clear HB HR2 HR3 HR4 hb
      have HB := Lib.hid hB
      have HR2 := Lib.hid hr2
      have HR3 := Lib.hid hr3
      have HR4 := Lib.hid hr4
      clear hB hr2 hr3 hr4
      clear v
      rename World => v
      go_wp2_with (with_reducible refine Sn.store_sp (.tmp 8) (.tmp 67) (w.heap.size + 1 + 1) #[.int .u64 0, .int .u64 0] #[.int .u64 t, .int .u64 t] HR2.out rfl rfl rfl rfl rfl rfl (by simp [Value.oneCell']) ?_)
      refine Sn.ret_sp (w.heap.size + 1 + 1) _ (Sn.bk_row HR2.out _) rfl rfl rfl rfl ?_
      exact ⟨by first | (rw [HRES.out]; done) | (rw [HRES.out]; rfl), Sn.below_set HB.out (by omega) _⟩
    · obtain ⟨hk, hnp⟩ := hyp
      have hn : 5 ≤ op ∧ op ≤ 21 ∧ op ≠ 6 ∧ op ≠ 7 := by omega
      have HT := Lib.hid (HTS.out hk)
      have HC := Lib.hid (HCS.out)
      clear HRESP HHA HTS HCS HTP HCP HTH HCH HTT HCT H012
      by_cases hp : p1 = p2
      · have hq : ¬ q1 = q2 := fun h => hnp ⟨hp, .inr h⟩
        have h5 : ¬ op = 5 := fun h => hnp ⟨hp, .inl h⟩
        clear hnp
        have o1 : decide (op < 5) = false := by simp; omega
        have o2 : decide (op > 21) = false := by simp; omega
        have o3 : (op == 6) = false := by simp; omega
        have o4 : (op == 7) = false := by simp; omega
        have o5 : (op == 5) = false := by simp; omega
        have k1 : (p1 == p2) = true := by simp; exact hp
        have k2 : (q1 == q2) = false := by simp; exact hq
        have hne : ¬ ((p1, p2).1 = (p1, p2).2 ∧ (q1, q2).1 = (q1, q2).2) := fun h => hq h.2
        have o19 : decide (op ≥ 19) = false := by simp; omega
        have o11 : decide (op ≥ 11) = false := by simp; omega
        have o15 : decide (op ≤ 15) = true := by simp; omega
        have o16 : decide (op ≥ 16) = false := by simp; omega
        clear hp hn hk hq
        try clear h5
        cases okS with
        | true =>
          have HRES := Lib.hid ((Sn.ap_tab hne).trans HT.out)
          clear hne
          have c3_0 := Sn.bk_c HR3.out 0
          have c3_1 := Sn.bk_c HR3.out 1
          have c4_0 := Sn.bk_c HR4.out 0
          have c4_1 := Sn.bk_c HR4.out 1
          simp only [List.getElem?_toArray, List.getElem?_cons_zero, List.getElem?_cons_succ] at c3_0 c3_1 c4_0 c4_1
          go_wp2_with (first | (with_reducible refine Sn.load_sp (.tmp 11) (b) #[.int .u64 p1, .int .u64 p2] HR3.out rfl rfl rfl rfl ?_) | (with_reducible refine Sn.load_sp (.tmp 12) (c) #[.int .u64 q1, .int .u64 q2] HR4.out rfl rfl rfl rfl ?_))
          clear c3_0 c3_1 c4_0 c4_1
          refine (HC.out v).mono ?_
          rintro e v2 ⟨rfl, hb⟩
          have hr2 := Sn.bk_below HR2.out hb (Sn.bk_lt HR2.out)
          have hr3 := Sn.bk_below HR3.out hb (Sn.bk_lt HR3.out)
          have hr4 := Sn.bk_below HR4.out hb (Sn.bk_lt HR4.out)
          have hB := Sn.below_next HB.out hb HB.out.size
          clear HB HR2 HR3 HR4 hb
          have HB := Lib.hid hB
          have HR2 := Lib.hid hr2
          have HR3 := Lib.hid hr3
          have HR4 := Lib.hid hr4
          clear hB hr2 hr3 hr4
          clear v
          rename World => v
          go_upto_region 15 with (fail)
          have hB : Below w.heap.size w (v.alloc (.cells #[.int .u64 r1S, .int .u64 r2S] 24)) := (HB.out).alloc (by exact HB.out.size) _
          have hr2 : Sn.Bk (v.alloc (.cells #[.int .u64 r1S, .int .u64 r2S] 24)) (w.heap.size + 1 + 1) 24 #[.int .u64 0, .int .u64 0] := Sn.bk_old (HR2.out) _
          have hr3 : Sn.Bk (v.alloc (.cells #[.int .u64 r1S, .int .u64 r2S] 24)) (b) 24 #[.int .u64 p1, .int .u64 p2] := Sn.bk_old (HR3.out) _
          have hr4 : Sn.Bk (v.alloc (.cells #[.int .u64 r1S, .int .u64 r2S] 24)) (c) 24 #[.int .u64 q1, .int .u64 q2] := Sn.bk_old (HR4.out) _
          have hr5 : Sn.Bk (v.alloc (.cells #[.int .u64 r1S, .int .u64 r2S] 24)) (v.heap.size) 24 #[.int .u64 r1S, .int .u64 r2S] := Sn.bk_new _ _ _
          clear HB HR2 HR3 HR4
          generalize (v.alloc (.cells #[.int .u64 r1S, .int .u64 r2S] 24)) = u at *
          generalize v.heap.size = b5 at *
          clear v
          rename World => v
          have HB := Lib.hid hB
          have HR2 := Lib.hid hr2
          have HR3 := Lib.hid hr3
          have HR4 := Lib.hid hr4
          have HR5 := Lib.hid hr5
          clear hB hr2 hr3 hr4 hr5
          go_wp2_with (first | (with_reducible refine Sn.load_sp (.tmp 15) (b5) #[.int .u64 r1S, .int .u64 r2S] HR5.out rfl rfl rfl rfl ?_) | (with_reducible refine Sn.store_sp (.tmp 8) (.tmp 118) (w.heap.size + 1 + 1) #[.int .u64 0, .int .u64 0] #[.int .u64 r1S, .int .u64 r2S] HR2.out rfl rfl rfl rfl rfl rfl (by simp [Value.oneCell']) ?_))
          refine Sn.ret_sp (w.heap.size + 1 + 1) _ (Sn.bk_row HR2.out _) rfl rfl rfl rfl ?_
          exact ⟨by first | (rw [HRES.out]; done) | (rw [HRES.out]; rfl), Sn.below_set HB.out (by omega) _⟩
        | false =>
          have HRES := Lib.hid ((Sn.ap_tab hne).trans HT.out)
          clear hne
          have c3_0 := Sn.bk_c HR3.out 0
          have c3_1 := Sn.bk_c HR3.out 1
          have c4_0 := Sn.bk_c HR4.out 0
          have c4_1 := Sn.bk_c HR4.out 1
          simp only [List.getElem?_toArray, List.getElem?_cons_zero, List.getElem?_cons_succ] at c3_0 c3_1 c4_0 c4_1
          go_wp2_with (first | (with_reducible refine Sn.load_sp (.tmp 11) (b) #[.int .u64 p1, .int .u64 p2] HR3.out rfl rfl rfl rfl ?_) | (with_reducible refine Sn.load_sp (.tmp 12) (c) #[.int .u64 q1, .int .u64 q2] HR4.out rfl rfl rfl rfl ?_))
          clear c3_0 c3_1 c4_0 c4_1
          refine (HC.out v).mono ?_
          rintro e v2 ⟨rfl, hb⟩
          have hr2 := Sn.bk_below HR2.out hb (Sn.bk_lt HR2.out)
          have hr3 := Sn.bk_below HR3.out hb (Sn.bk_lt HR3.out)
          have hr4 := Sn.bk_below HR4.out hb (Sn.bk_lt HR4.out)
          have hB := Sn.below_next HB.out hb HB.out.size
          clear HB HR2 HR3 HR4 hb
          have HB := Lib.hid hB
          have HR2 := Lib.hid hr2
          have HR3 := Lib.hid hr3
          have HR4 := Lib.hid hr4
          clear hB hr2 hr3 hr4
          clear v
          rename World => v
          go_upto_region 15 with (fail)
          have hB : Below w.heap.size w (v.alloc (.cells #[.int .u64 r1S, .int .u64 r2S] 24)) := (HB.out).alloc (by exact HB.out.size) _
          have hr2 : Sn.Bk (v.alloc (.cells #[.int .u64 r1S, .int .u64 r2S] 24)) (w.heap.size + 1 + 1) 24 #[.int .u64 0, .int .u64 0] := Sn.bk_old (HR2.out) _
          have hr3 : Sn.Bk (v.alloc (.cells #[.int .u64 r1S, .int .u64 r2S] 24)) (b) 24 #[.int .u64 p1, .int .u64 p2] := Sn.bk_old (HR3.out) _
          have hr4 : Sn.Bk (v.alloc (.cells #[.int .u64 r1S, .int .u64 r2S] 24)) (c) 24 #[.int .u64 q1, .int .u64 q2] := Sn.bk_old (HR4.out) _
          have hr5 : Sn.Bk (v.alloc (.cells #[.int .u64 r1S, .int .u64 r2S] 24)) (v.heap.size) 24 #[.int .u64 r1S, .int .u64 r2S] := Sn.bk_new _ _ _
          clear HB HR2 HR3 HR4
          generalize (v.alloc (.cells #[.int .u64 r1S, .int .u64 r2S] 24)) = u at *
          generalize v.heap.size = b5 at *
          clear v
          rename World => v
          have HB := Lib.hid hB
          have HR2 := Lib.hid hr2
          have HR3 := Lib.hid hr3
          have HR4 := Lib.hid hr4
          have HR5 := Lib.hid hr5
          clear hB hr2 hr3 hr4 hr5
          go_wp2_with (with_reducible refine Sn.store_sp (.tmp 8) (.tmp 117) (w.heap.size + 1 + 1) #[.int .u64 0, .int .u64 0] #[.int .u64 0, .int .u64 (Wd.msk a)] HR2.out rfl rfl rfl rfl rfl rfl (by simp [Value.oneCell']) ?_)
          refine Sn.ret_sp (w.heap.size + 1 + 1) _ (Sn.bk_row HR2.out _) rfl rfl rfl rfl ?_
          exact ⟨by first | (rw [HRES.out]; done) | (rw [HRES.out]; rfl), Sn.below_set HB.out (by omega) _⟩
      clear hnp
      by_cases h5 : op = 5
      · have o1 : decide (op < 5) = false := by simp; omega
        have o2 : decide (op > 21) = false := by simp; omega
        have o3 : (op == 6) = false := by simp; omega
        have o4 : (op == 7) = false := by simp; omega
        have o5 : (op == 5) = true := by simp; omega
        have k1 : (p1 == p2) = false := by simp; exact hp
        have hne : ¬ ((p1, p2).1 = (p1, p2).2 ∧ (q1, q2).1 = (q1, q2).2) := fun h => hp h.1
        have o19 : decide (op ≥ 19) = false := by simp; omega
        have o11 : decide (op ≥ 11) = false := by simp; omega
        have o15 : decide (op ≤ 15) = true := by simp; omega
        have o16 : decide (op ≥ 16) = false := by simp; omega
        clear hp hn hk
        try clear h5
        cases okS with
        | true =>
          have HRES := Lib.hid ((Sn.ap_tab hne).trans HT.out)
          clear hne
          have c3_0 := Sn.bk_c HR3.out 0
          have c3_1 := Sn.bk_c HR3.out 1
          have c4_0 := Sn.bk_c HR4.out 0
          have c4_1 := Sn.bk_c HR4.out 1
          simp only [List.getElem?_toArray, List.getElem?_cons_zero, List.getElem?_cons_succ] at c3_0 c3_1 c4_0 c4_1
          go_wp2_with (first | (with_reducible refine Sn.load_sp (.tmp 11) (b) #[.int .u64 p1, .int .u64 p2] HR3.out rfl rfl rfl rfl ?_) | (with_reducible refine Sn.load_sp (.tmp 12) (c) #[.int .u64 q1, .int .u64 q2] HR4.out rfl rfl rfl rfl ?_))
          clear c3_0 c3_1 c4_0 c4_1
          refine (HC.out v).mono ?_
          rintro e v2 ⟨rfl, hb⟩
          have hr2 := Sn.bk_below HR2.out hb (Sn.bk_lt HR2.out)
          have hr3 := Sn.bk_below HR3.out hb (Sn.bk_lt HR3.out)
          have hr4 := Sn.bk_below HR4.out hb (Sn.bk_lt HR4.out)
          have hB := Sn.below_next HB.out hb HB.out.size
          clear HB HR2 HR3 HR4 hb
          have HB := Lib.hid hB
          have HR2 := Lib.hid hr2
          have HR3 := Lib.hid hr3
          have HR4 := Lib.hid hr4
          clear hB hr2 hr3 hr4
          clear v
          rename World => v
          go_upto_region 15 with (fail)
          have hB : Below w.heap.size w (v.alloc (.cells #[.int .u64 r1S, .int .u64 r2S] 24)) := (HB.out).alloc (by exact HB.out.size) _
          have hr2 : Sn.Bk (v.alloc (.cells #[.int .u64 r1S, .int .u64 r2S] 24)) (w.heap.size + 1 + 1) 24 #[.int .u64 0, .int .u64 0] := Sn.bk_old (HR2.out) _
          have hr3 : Sn.Bk (v.alloc (.cells #[.int .u64 r1S, .int .u64 r2S] 24)) (b) 24 #[.int .u64 p1, .int .u64 p2] := Sn.bk_old (HR3.out) _
          have hr4 : Sn.Bk (v.alloc (.cells #[.int .u64 r1S, .int .u64 r2S] 24)) (c) 24 #[.int .u64 q1, .int .u64 q2] := Sn.bk_old (HR4.out) _
          have hr5 : Sn.Bk (v.alloc (.cells #[.int .u64 r1S, .int .u64 r2S] 24)) (v.heap.size) 24 #[.int .u64 r1S, .int .u64 r2S] := Sn.bk_new _ _ _
          clear HB HR2 HR3 HR4
          generalize (v.alloc (.cells #[.int .u64 r1S, .int .u64 r2S] 24)) = u at *
          generalize v.heap.size = b5 at *
          clear v
          rename World => v
          have HB := Lib.hid hB
          have HR2 := Lib.hid hr2
          have HR3 := Lib.hid hr3
          have HR4 := Lib.hid hr4
          have HR5 := Lib.hid hr5
          clear hB hr2 hr3 hr4 hr5
          go_wp2_with (first | (with_reducible refine Sn.load_sp (.tmp 15) (b5) #[.int .u64 r1S, .int .u64 r2S] HR5.out rfl rfl rfl rfl ?_) | (with_reducible refine Sn.store_sp (.tmp 8) (.tmp 118) (w.heap.size + 1 + 1) #[.int .u64 0, .int .u64 0] #[.int .u64 r1S, .int .u64 r2S] HR2.out rfl rfl rfl rfl rfl rfl (by simp [Value.oneCell']) ?_))
          refine Sn.ret_sp (w.heap.size + 1 + 1) _ (Sn.bk_row HR2.out _) rfl rfl rfl rfl ?_
          exact ⟨by first | (rw [HRES.out]; done) | (rw [HRES.out]; rfl), Sn.below_set HB.out (by omega) _⟩
        | false =>
          have HRES := Lib.hid ((Sn.ap_tab hne).trans HT.out)
          clear hne
          have c3_0 := Sn.bk_c HR3.out 0
          have c3_1 := Sn.bk_c HR3.out 1
          have c4_0 := Sn.bk_c HR4.out 0
          have c4_1 := Sn.bk_c HR4.out 1
          simp only [List.getElem?_toArray, List.getElem?_cons_zero, List.getElem?_cons_succ] at c3_0 c3_1 c4_0 c4_1
          go_wp2_with (first | (with_reducible refine Sn.load_sp (.tmp 11) (b) #[.int .u64 p1, .int .u64 p2] HR3.out rfl rfl rfl rfl ?_) | (with_reducible refine Sn.load_sp (.tmp 12) (c) #[.int .u64 q1, .int .u64 q2] HR4.out rfl rfl rfl rfl ?_))
          clear c3_0 c3_1 c4_0 c4_1
          refine (HC.out v).mono ?_
          rintro e v2 ⟨rfl, hb⟩
          have hr2 := Sn.bk_below HR2.out hb (Sn.bk_lt HR2.out)
          have hr3 := Sn.bk_below HR3.out hb (Sn.bk_lt HR3.out)
          have hr4 := Sn.bk_below HR4.out hb (Sn.bk_lt HR4.out)
          have hB := Sn.below_next HB.out hb HB.out.size
          clear HB HR2 HR3 HR4 hb
          have HB := Lib.hid hB
          have HR2 := Lib.hid hr2
          have HR3 := Lib.hid hr3
          have HR4 := Lib.hid hr4
          clear hB hr2 hr3 hr4
          clear v
          rename World => v
          go_upto_region 15 with (fail)
          have hB : Below w.heap.size w (v.alloc (.cells #[.int .u64 r1S, .int .u64 r2S] 24)) := (HB.out).alloc (by exact HB.out.size) _
          have hr2 : Sn.Bk (v.alloc (.cells #[.int .u64 r1S, .int .u64 r2S] 24)) (w.heap.size + 1 + 1) 24 #[.int .u64 0, .int .u64 0] := Sn.bk_old (HR2.out) _
          have hr3 : Sn.Bk (v.alloc (.cells #[.int .u64 r1S, .int .u64 r2S] 24)) (b) 24 #[.int .u64 p1, .int .u64 p2] := Sn.bk_old (HR3.out) _
          have hr4 : Sn.Bk (v.alloc (.cells #[.int .u64 r1S, .int .u64 r2S] 24)) (c) 24 #[.int .u64 q1, .int .u64 q2] := Sn.bk_old (HR4.out) _
          have hr5 : Sn.Bk (v.alloc (.cells #[.int .u64 r1S, .int .u64 r2S] 24)) (v.heap.size) 24 #[.int .u64 r1S, .int .u64 r2S] := Sn.bk_new _ _ _
          clear HB HR2 HR3 HR4
          generalize (v.alloc (.cells #[.int .u64 r1S, .int .u64 r2S] 24)) = u at *
          generalize v.heap.size = b5 at *
          clear v
          rename World => v
          have HB := Lib.hid hB
          have HR2 := Lib.hid hr2
          have HR3 := Lib.hid hr3
          have HR4 := Lib.hid hr4
          have HR5 := Lib.hid hr5
          clear hB hr2 hr3 hr4 hr5
          go_wp2_with (with_reducible refine Sn.store_sp (.tmp 8) (.tmp 117) (w.heap.size + 1 + 1) #[.int .u64 0, .int .u64 0] #[.int .u64 0, .int .u64 (Wd.msk a)] HR2.out rfl rfl rfl rfl rfl rfl (by simp [Value.oneCell']) ?_)
          refine Sn.ret_sp (w.heap.size + 1 + 1) _ (Sn.bk_row HR2.out _) rfl rfl rfl rfl ?_
          exact ⟨by first | (rw [HRES.out]; done) | (rw [HRES.out]; rfl), Sn.below_set HB.out (by omega) _⟩
      have o1 : decide (op < 5) = false := by simp; omega
      have o2 : decide (op > 21) = false := by simp; omega
      have o3 : (op == 6) = false := by simp; omega
      have o4 : (op == 7) = false := by simp; omega
      have o5 : (op == 5) = false := by simp; omega
      have k1 : (p1 == p2) = false := by simp; exact hp
      have hne : ¬ ((p1, p2).1 = (p1, p2).2 ∧ (q1, q2).1 = (q1, q2).2) := fun h => hp h.1
      have o19 : decide (op ≥ 19) = false := by simp; omega
      have o11 : decide (op ≥ 11) = false := by simp; omega
      have o15 : decide (op ≤ 15) = true := by simp; omega
      have o16 : decide (op ≥ 16) = false := by simp; omega
      clear hp hn hk
      try clear h5
      cases okS with
      | true =>
        have HRES := Lib.hid ((Sn.ap_tab hne).trans HT.out)
        clear hne
        have c3_0 := Sn.bk_c HR3.out 0
        have c3_1 := Sn.bk_c HR3.out 1
        have c4_0 := Sn.bk_c HR4.out 0
        have c4_1 := Sn.bk_c HR4.out 1
        simp only [List.getElem?_toArray, List.getElem?_cons_zero, List.getElem?_cons_succ] at c3_0 c3_1 c4_0 c4_1
        go_wp2_with (first | (with_reducible refine Sn.load_sp (.tmp 11) (b) #[.int .u64 p1, .int .u64 p2] HR3.out rfl rfl rfl rfl ?_) | (with_reducible refine Sn.load_sp (.tmp 12) (c) #[.int .u64 q1, .int .u64 q2] HR4.out rfl rfl rfl rfl ?_))
        clear c3_0 c3_1 c4_0 c4_1
        refine (HC.out v).mono ?_
        rintro e v2 ⟨rfl, hb⟩
        have hr2 := Sn.bk_below HR2.out hb (Sn.bk_lt HR2.out)
        have hr3 := Sn.bk_below HR3.out hb (Sn.bk_lt HR3.out)
        have hr4 := Sn.bk_below HR4.out hb (Sn.bk_lt HR4.out)
        have hB := Sn.below_next HB.out hb HB.out.size
        clear HB HR2 HR3 HR4 hb
        have HB := Lib.hid hB
        have HR2 := Lib.hid hr2
        have HR3 := Lib.hid hr3
        have HR4 := Lib.hid hr4
        clear hB hr2 hr3 hr4
        clear v
        rename World => v
        go_upto_region 15 with (fail)
        have hB : Below w.heap.size w (v.alloc (.cells #[.int .u64 r1S, .int .u64 r2S] 24)) := (HB.out).alloc (by exact HB.out.size) _
        have hr2 : Sn.Bk (v.alloc (.cells #[.int .u64 r1S, .int .u64 r2S] 24)) (w.heap.size + 1 + 1) 24 #[.int .u64 0, .int .u64 0] := Sn.bk_old (HR2.out) _
        have hr3 : Sn.Bk (v.alloc (.cells #[.int .u64 r1S, .int .u64 r2S] 24)) (b) 24 #[.int .u64 p1, .int .u64 p2] := Sn.bk_old (HR3.out) _
        have hr4 : Sn.Bk (v.alloc (.cells #[.int .u64 r1S, .int .u64 r2S] 24)) (c) 24 #[.int .u64 q1, .int .u64 q2] := Sn.bk_old (HR4.out) _
        have hr5 : Sn.Bk (v.alloc (.cells #[.int .u64 r1S, .int .u64 r2S] 24)) (v.heap.size) 24 #[.int .u64 r1S, .int .u64 r2S] := Sn.bk_new _ _ _
        clear HB HR2 HR3 HR4
        generalize (v.alloc (.cells #[.int .u64 r1S, .int .u64 r2S] 24)) = u at *
        generalize v.heap.size = b5 at *
        clear v
        rename World => v
        have HB := Lib.hid hB
        have HR2 := Lib.hid hr2
        have HR3 := Lib.hid hr3
        have HR4 := Lib.hid hr4
        have HR5 := Lib.hid hr5
        clear hB hr2 hr3 hr4 hr5
        go_wp2_with (first | (with_reducible refine Sn.load_sp (.tmp 15) (b5) #[.int .u64 r1S, .int .u64 r2S] HR5.out rfl rfl rfl rfl ?_) | (with_reducible refine Sn.store_sp (.tmp 8) (.tmp 118) (w.heap.size + 1 + 1) #[.int .u64 0, .int .u64 0] #[.int .u64 r1S, .int .u64 r2S] HR2.out rfl rfl rfl rfl rfl rfl (by simp [Value.oneCell']) ?_))
        refine Sn.ret_sp (w.heap.size + 1 + 1) _ (Sn.bk_row HR2.out _) rfl rfl rfl rfl ?_
        exact ⟨by first | (rw [HRES.out]; done) | (rw [HRES.out]; rfl), Sn.below_set HB.out (by omega) _⟩
      | false =>
        have HRES := Lib.hid ((Sn.ap_tab hne).trans HT.out)
        clear hne
        have c3_0 := Sn.bk_c HR3.out 0
        have c3_1 := Sn.bk_c HR3.out 1
        have c4_0 := Sn.bk_c HR4.out 0
        have c4_1 := Sn.bk_c HR4.out 1
        simp only [List.getElem?_toArray, List.getElem?_cons_zero, List.getElem?_cons_succ] at c3_0 c3_1 c4_0 c4_1
        go_wp2_with (first | (with_reducible refine Sn.load_sp (.tmp 11) (b) #[.int .u64 p1, .int .u64 p2] HR3.out rfl rfl rfl rfl ?_) | (with_reducible refine Sn.load_sp (.tmp 12) (c) #[.int .u64 q1, .int .u64 q2] HR4.out rfl rfl rfl rfl ?_))
        clear c3_0 c3_1 c4_0 c4_1
        refine (HC.out v).mono ?_
        rintro e v2 ⟨rfl, hb⟩
        have hr2 := Sn.bk_below HR2.out hb (Sn.bk_lt HR2.out)
        have hr3 := Sn.bk_below HR3.out hb (Sn.bk_lt HR3.out)
        have hr4 := Sn.bk_below HR4.out hb (Sn.bk_lt HR4.out)
        have hB := Sn.below_next HB.out hb HB.out.size
        clear HB HR2 HR3 HR4 hb
        have HB := Lib.hid hB
        have HR2 := Lib.hid hr2
        have HR3 := Lib.hid hr3
        have HR4 := Lib.hid hr4
        clear hB hr2 hr3 hr4
        clear v
        rename World => v
        go_upto_region 15 with (fail)
        have hB : Below w.heap.size w (v.alloc (.cells #[.int .u64 r1S, .int .u64 r2S] 24)) := (HB.out).alloc (by exact HB.out.size) _
        have hr2 : Sn.Bk (v.alloc (.cells #[.int .u64 r1S, .int .u64 r2S] 24)) (w.heap.size + 1 + 1) 24 #[.int .u64 0, .int .u64 0] := Sn.bk_old (HR2.out) _
        have hr3 : Sn.Bk (v.alloc (.cells #[.int .u64 r1S, .int .u64 r2S] 24)) (b) 24 #[.int .u64 p1, .int .u64 p2] := Sn.bk_old (HR3.out) _
        have hr4 : Sn.Bk (v.alloc (.cells #[.int .u64 r1S, .int .u64 r2S] 24)) (c) 24 #[.int .u64 q1, .int .u64 q2] := Sn.bk_old (HR4.out) _
        have hr5 : Sn.Bk (v.alloc (.cells #[.int .u64 r1S, .int .u64 r2S] 24)) (v.heap.size) 24 #[.int .u64 r1S, .int .u64 r2S] := Sn.bk_new _ _ _
        clear HB HR2 HR3 HR4
        generalize (v.alloc (.cells #[.int .u64 r1S, .int .u64 r2S] 24)) = u at *
        generalize v.heap.size = b5 at *
        clear v
        rename World => v
        have HB := Lib.hid hB
        have HR2 := Lib.hid hr2
        have HR3 := Lib.hid hr3
        have HR4 := Lib.hid hr4
        have HR5 := Lib.hid hr5
        clear hB hr2 hr3 hr4 hr5
        go_wp2_with (with_reducible refine Sn.store_sp (.tmp 8) (.tmp 117) (w.heap.size + 1 + 1) #[.int .u64 0, .int .u64 0] #[.int .u64 0, .int .u64 (Wd.msk a)] HR2.out rfl rfl rfl rfl rfl rfl (by simp [Value.oneCell']) ?_)
        refine Sn.ret_sp (w.heap.size + 1 + 1) _ (Sn.bk_row HR2.out _) rfl rfl rfl rfl ?_
        exact ⟨by first | (rw [HRES.out]; done) | (rw [HRES.out]; rfl), Sn.below_set HB.out (by omega) _⟩
    · obtain ⟨hk, hnp⟩ := hyp
      have hn : 5 ≤ op ∧ op ≤ 21 ∧ op ≠ 6 ∧ op ≠ 7 := by omega
      have HT := Lib.hid (HTP.out)
      have HC := Lib.hid (HCP.out hk)
      have HS := Lib.hid HCS.out
      clear HRESP HHA HTS HCS HTP HCP HTH HCH HTT HCT H012
      by_cases hp : p1 = p2
      · have hq : ¬ q1 = q2 := fun h => hnp ⟨hp, .inr h⟩
        have h5 : ¬ op = 5 := fun h => hnp ⟨hp, .inl h⟩
        clear hnp
        have o1 : decide (op < 5) = false := by simp; omega
        have o2 : decide (op > 21) = false := by simp; omega
        have o3 : (op == 6) = false := by simp; omega
        have o4 : (op == 7) = false := by simp; omega
        have o5 : (op == 5) = false := by simp; omega
        have k1 : (p1 == p2) = true := by simp; exact hp
        have k2 : (q1 == q2) = false := by simp; exact hq
        have hne : ¬ ((p1, p2).1 = (p1, p2).2 ∧ (q1, q2).1 = (q1, q2).2) := fun h => hq h.2
        have o19 : decide (op ≥ 19) = false := by simp; omega
        have o11 : decide (op ≥ 11) = true := by simp; omega
        have o15 : decide (op ≤ 15) = true := by simp; omega
        have o16 : decide (op ≥ 16) = false := by simp; omega
        clear hp hn hk hq
        try clear h5
        cases okP with
        | true =>
          have HRES := Lib.hid ((Sn.ap_tab hne).trans HT.out)
          clear hne
          have c3_0 := Sn.bk_c HR3.out 0
          have c3_1 := Sn.bk_c HR3.out 1
          have c4_0 := Sn.bk_c HR4.out 0
          have c4_1 := Sn.bk_c HR4.out 1
          simp only [List.getElem?_toArray, List.getElem?_cons_zero, List.getElem?_cons_succ] at c3_0 c3_1 c4_0 c4_1
          go_wp2_with (first | (with_reducible refine Sn.load_sp (.tmp 11) (b) #[.int .u64 p1, .int .u64 p2] HR3.out rfl rfl rfl rfl ?_) | (with_reducible refine Sn.load_sp (.tmp 12) (c) #[.int .u64 q1, .int .u64 q2] HR4.out rfl rfl rfl rfl ?_))
          clear c3_0 c3_1 c4_0 c4_1
          refine (HS.out v).mono ?_
          rintro e v2 ⟨rfl, hb⟩
          have hr2 := Sn.bk_below HR2.out hb (Sn.bk_lt HR2.out)
          have hr3 := Sn.bk_below HR3.out hb (Sn.bk_lt HR3.out)
          have hr4 := Sn.bk_below HR4.out hb (Sn.bk_lt HR4.out)
          have hB := Sn.below_next HB.out hb HB.out.size
          clear HB HR2 HR3 HR4 hb
          have HB := Lib.hid hB
          have HR2 := Lib.hid hr2
          have HR3 := Lib.hid hr3
          have HR4 := Lib.hid hr4
          clear hB hr2 hr3 hr4
          clear v
          rename World => v
          go_upto_region 15 with (fail)
          have g5 := HB.out.size
          have l5 := Sn.bk_lt HR2.out
          have hB : Below w.heap.size w (v.alloc (.cells #[.int .u64 r1S, .int .u64 r2S] 24)) := (HB.out).alloc (by exact HB.out.size) _
          have hr2 : Sn.Bk (v.alloc (.cells #[.int .u64 r1S, .int .u64 r2S] 24)) (w.heap.size + 1 + 1) 24 #[.int .u64 0, .int .u64 0] := Sn.bk_old (HR2.out) _
          have hr3 : Sn.Bk (v.alloc (.cells #[.int .u64 r1S, .int .u64 r2S] 24)) (b) 24 #[.int .u64 p1, .int .u64 p2] := Sn.bk_old (HR3.out) _
          have hr4 : Sn.Bk (v.alloc (.cells #[.int .u64 r1S, .int .u64 r2S] 24)) (c) 24 #[.int .u64 q1, .int .u64 q2] := Sn.bk_old (HR4.out) _
          have hr5 : Sn.Bk (v.alloc (.cells #[.int .u64 r1S, .int .u64 r2S] 24)) (v.heap.size) 24 #[.int .u64 r1S, .int .u64 r2S] := Sn.bk_new _ _ _
          clear HB HR2 HR3 HR4
          generalize (v.alloc (.cells #[.int .u64 r1S, .int .u64 r2S] 24)) = u at *
          generalize v.heap.size = b5 at *
          clear v
          rename World => v
          have HB := Lib.hid hB
          have HR2 := Lib.hid hr2
          have HR3 := Lib.hid hr3
          have HR4 := Lib.hid hr4
          have HR5 := Lib.hid hr5
          clear hB hr2 hr3 hr4 hr5
          go_wp2_with (first | (with_reducible refine Sn.load_sp (.tmp 11) (b) #[.int .u64 p1, .int .u64 p2] HR3.out rfl rfl rfl rfl ?_) | (with_reducible refine Sn.load_sp (.tmp 12) (c) #[.int .u64 q1, .int .u64 q2] HR4.out rfl rfl rfl rfl ?_))
          refine (HC.out v).mono ?_
          rintro e v2 ⟨rfl, hb⟩
          have hr2 := Sn.bk_below HR2.out hb (Sn.bk_lt HR2.out)
          have hr3 := Sn.bk_below HR3.out hb (Sn.bk_lt HR3.out)
          have hr4 := Sn.bk_below HR4.out hb (Sn.bk_lt HR4.out)
          have hr5 := Sn.bk_below HR5.out hb (Sn.bk_lt HR5.out)
          have hB := Sn.below_next HB.out hb HB.out.size
          clear HB HR2 HR3 HR4 HR5 hb
          have HB := Lib.hid hB
          have HR2 := Lib.hid hr2
          have HR3 := Lib.hid hr3
          have HR4 := Lib.hid hr4
          have HR5 := Lib.hid hr5
          clear hB hr2 hr3 hr4 hr5
          clear v
          rename World => v
          clear HR3 HR4
          go_upto_region 19 with (with_reducible refine Sn.store_sp (.tmp 15) (.tmp 101) b5 #[.int .u64 r1S, .int .u64 r2S] #[.int .u64 r1P, .int .u64 r2P] HR5.out rfl rfl rfl rfl rfl rfl (by simp [Value.oneCell']) ?_)
          have hB : Below w.heap.size w (v.setRow b5 #[.int .u64 r1P, .int .u64 r2P]) := Sn.below_set HB.out (by omega) _
          have hr2 : Sn.Bk (v.setRow b5 #[.int .u64 r1P, .int .u64 r2P]) (w.heap.size + 1 + 1) 24 #[.int .u64 0, .int .u64 0] := Sn.bk_row_other HR2.out (by omega) _
          have hr5 : Sn.Bk (v.setRow b5 #[.int .u64 r1P, .int .u64 r2P]) b5 24 #[.int .u64 r1P, .int .u64 r2P] := Sn.bk_row HR5.out _
          clear HB HR2 HR5
          generalize (v.setRow b5 #[.int .u64 r1P, .int .u64 r2P]) = v9 at *
          clear v
          rename World => v
          have HB := Lib.hid hB
          have HR2 := Lib.hid hr2
          have HR5 := Lib.hid hr5
          clear hB hr2 hr5
          go_wp2_with (first | (with_reducible refine Sn.load_sp (.tmp 15) (b5) #[.int .u64 r1P, .int .u64 r2P] HR5.out rfl rfl rfl rfl ?_) | (with_reducible refine Sn.store_sp (.tmp 8) (.tmp 118) (w.heap.size + 1 + 1) #[.int .u64 0, .int .u64 0] #[.int .u64 r1P, .int .u64 r2P] HR2.out rfl rfl rfl rfl rfl rfl (by simp [Value.oneCell']) ?_))
          refine Sn.ret_sp (w.heap.size + 1 + 1) _ (Sn.bk_row HR2.out _) rfl rfl rfl rfl ?_
          exact ⟨by first | (rw [HRES.out]; done) | (rw [HRES.out]; rfl), Sn.below_set HB.out (by omega) _⟩
        | false =>
          have HRES := Lib.hid ((Sn.ap_tab hne).trans HT.out)
          clear hne
          have c3_0 := Sn.bk_c HR3.out 0
          have c3_1 := Sn.bk_c HR3.out 1
          have c4_0 := Sn.bk_c HR4.out 0
          have c4_1 := Sn.bk_c HR4.out 1
          simp only [List.getElem?_toArray, List.getElem?_cons_zero, List.getElem?_cons_succ] at c3_0 c3_1 c4_0 c4_1
          go_wp2_with (first | (with_reducible refine Sn.load_sp (.tmp 11) (b) #[.int .u64 p1, .int .u64 p2] HR3.out rfl rfl rfl rfl ?_) | (with_reducible refine Sn.load_sp (.tmp 12) (c) #[.int .u64 q1, .int .u64 q2] HR4.out rfl rfl rfl rfl ?_))
          clear c3_0 c3_1 c4_0 c4_1
          refine (HS.out v).mono ?_
          rintro e v2 ⟨rfl, hb⟩
          have hr2 := Sn.bk_below HR2.out hb (Sn.bk_lt HR2.out)
          have hr3 := Sn.bk_below HR3.out hb (Sn.bk_lt HR3.out)
          have hr4 := Sn.bk_below HR4.out hb (Sn.bk_lt HR4.out)
          have hB := Sn.below_next HB.out hb HB.out.size
          clear HB HR2 HR3 HR4 hb
          have HB := Lib.hid hB
          have HR2 := Lib.hid hr2
          have HR3 := Lib.hid hr3
          have HR4 := Lib.hid hr4
          clear hB hr2 hr3 hr4
          clear v
          rename World => v
          go_upto_region 15 with (fail)
          have g5 := HB.out.size
          have l5 := Sn.bk_lt HR2.out
          have hB : Below w.heap.size w (v.alloc (.cells #[.int .u64 r1S, .int .u64 r2S] 24)) := (HB.out).alloc (by exact HB.out.size) _
          have hr2 : Sn.Bk (v.alloc (.cells #[.int .u64 r1S, .int .u64 r2S] 24)) (w.heap.size + 1 + 1) 24 #[.int .u64 0, .int .u64 0] := Sn.bk_old (HR2.out) _
          have hr3 : Sn.Bk (v.alloc (.cells #[.int .u64 r1S, .int .u64 r2S] 24)) (b) 24 #[.int .u64 p1, .int .u64 p2] := Sn.bk_old (HR3.out) _
          have hr4 : Sn.Bk (v.alloc (.cells #[.int .u64 r1S, .int .u64 r2S] 24)) (c) 24 #[.int .u64 q1, .int .u64 q2] := Sn.bk_old (HR4.out) _
          have hr5 : Sn.Bk (v.alloc (.cells #[.int .u64 r1S, .int .u64 r2S] 24)) (v.heap.size) 24 #[.int .u64 r1S, .int .u64 r2S] := Sn.bk_new _ _ _
          clear HB HR2 HR3 HR4
          generalize (v.alloc (.cells #[.int .u64 r1S, .int .u64 r2S] 24)) = u at *
          generalize v.heap.size = b5 at *
          clear v
          rename World => v
          have HB := Lib.hid hB
          have HR2 := Lib.hid hr2
          have HR3 := Lib.hid hr3
          have HR4 := Lib.hid hr4
          have HR5 := Lib.hid hr5
          clear hB hr2 hr3 hr4 hr5
          go_wp2_with (first | (with_reducible refine Sn.load_sp (.tmp 11) (b) #[.int .u64 p1, .int .u64 p2] HR3.out rfl rfl rfl rfl ?_) | (with_reducible refine Sn.load_sp (.tmp 12) (c) #[.int .u64 q1, .int .u64 q2] HR4.out rfl rfl rfl rfl ?_))
          refine (HC.out v).mono ?_
          rintro e v2 ⟨rfl, hb⟩
          have hr2 := Sn.bk_below HR2.out hb (Sn.bk_lt HR2.out)
          have hr3 := Sn.bk_below HR3.out hb (Sn.bk_lt HR3.out)
          have hr4 := Sn.bk_below HR4.out hb (Sn.bk_lt HR4.out)
          have hr5 := Sn.bk_below HR5.out hb (Sn.bk_lt HR5.out)
          have hB := Sn.below_next HB.out hb HB.out.size
          clear HB HR2 HR3 HR4 HR5 hb
          have HB := Lib.hid hB
          have HR2 := Lib.hid hr2
          have HR3 := Lib.hid hr3
          have HR4 := Lib.hid hr4
          have HR5 := Lib.hid hr5
          clear hB hr2 hr3 hr4 hr5
          clear v
          rename World => v
          clear HR3 HR4
          go_upto_region 19 with (with_reducible refine Sn.store_sp (.tmp 15) (.tmp 101) b5 #[.int .u64 r1S, .int .u64 r2S] #[.int .u64 r1P, .int .u64 r2P] HR5.out rfl rfl rfl rfl rfl rfl (by simp [Value.oneCell']) ?_)
          have hB : Below w.heap.size w (v.setRow b5 #[.int .u64 r1P, .int .u64 r2P]) := Sn.below_set HB.out (by omega) _
          have hr2 : Sn.Bk (v.setRow b5 #[.int .u64 r1P, .int .u64 r2P]) (w.heap.size + 1 + 1) 24 #[.int .u64 0, .int .u64 0] := Sn.bk_row_other HR2.out (by omega) _
          have hr5 : Sn.Bk (v.setRow b5 #[.int .u64 r1P, .int .u64 r2P]) b5 24 #[.int .u64 r1P, .int .u64 r2P] := Sn.bk_row HR5.out _
          clear HB HR2 HR5
          generalize (v.setRow b5 #[.int .u64 r1P, .int .u64 r2P]) = v9 at *
          clear v
          rename World => v
          have HB := Lib.hid hB
          have HR2 := Lib.hid hr2
          have HR5 := Lib.hid hr5
          clear hB hr2 hr5
          go_wp2_with (with_reducible refine Sn.store_sp (.tmp 8) (.tmp 117) (w.heap.size + 1 + 1) #[.int .u64 0, .int .u64 0] #[.int .u64 0, .int .u64 (Wd.msk a)] HR2.out rfl rfl rfl rfl rfl rfl (by simp [Value.oneCell']) ?_)
          refine Sn.ret_sp (w.heap.size + 1 + 1) _ (Sn.bk_row HR2.out _) rfl rfl rfl rfl ?_
          exact ⟨by first | (rw [HRES.out]; done) | (rw [HRES.out]; rfl), Sn.below_set HB.out (by omega) _⟩
      clear hnp
      have o1 : decide (op < 5) = false := by simp; omega
      have o2 : decide (op > 21) = false := by simp; omega
      have o3 : (op == 6) = false := by simp; omega
      have o4 : (op == 7) = false := by simp; omega
      have o5 : (op == 5) = false := by simp; omega
      have k1 : (p1 == p2) = false := by simp; exact hp
      have hne : ¬ ((p1, p2).1 = (p1, p2).2 ∧ (q1, q2).1 = (q1, q2).2) := fun h => hp h.1
      have o19 : decide (op ≥ 19) = false := by simp; omega
      have o11 : decide (op ≥ 11) = true := by simp; omega
      have o15 : decide (op ≤ 15) = true := by simp; omega
      have o16 : decide (op ≥ 16) = false := by simp; omega
      clear hp hn hk
      try clear h5
      cases okP with
      | true =>
        have HRES := Lib.hid ((Sn.ap_tab hne).trans HT.out)
        clear hne
        have c3_0 := Sn.bk_c HR3.out 0
        have c3_1 := Sn.bk_c HR3.out 1
        have c4_0 := Sn.bk_c HR4.out 0
        have c4_1 := Sn.bk_c HR4.out 1
        simp only [List.getElem?_toArray, List.getElem?_cons_zero, List.getElem?_cons_succ] at c3_0 c3_1 c4_0 c4_1
        go_wp2_with (first | (with_reducible refine Sn.load_sp (.tmp 11) (b) #[.int .u64 p1, .int .u64 p2] HR3.out rfl rfl rfl rfl ?_) | (with_reducible refine Sn.load_sp (.tmp 12) (c) #[.int .u64 q1, .int .u64 q2] HR4.out rfl rfl rfl rfl ?_))
        clear c3_0 c3_1 c4_0 c4_1
        refine (HS.out v).mono ?_
        rintro e v2 ⟨rfl, hb⟩
        have hr2 := Sn.bk_below HR2.out hb (Sn.bk_lt HR2.out)
        have hr3 := Sn.bk_below HR3.out hb (Sn.bk_lt HR3.out)
        have hr4 := Sn.bk_below HR4.out hb (Sn.bk_lt HR4.out)
        have hB := Sn.below_next HB.out hb HB.out.size
        clear HB HR2 HR3 HR4 hb
        have HB := Lib.hid hB
        have HR2 := Lib.hid hr2
        have HR3 := Lib.hid hr3
        have HR4 := Lib.hid hr4
        clear hB hr2 hr3 hr4
        clear v
        rename World => v
        go_upto_region 15 with (fail)
        have g5 := HB.out.size
        have l5 := Sn.bk_lt HR2.out
        have hB : Below w.heap.size w (v.alloc (.cells #[.int .u64 r1S, .int .u64 r2S] 24)) := (HB.out).alloc (by exact HB.out.size) _
        have hr2 : Sn.Bk (v.alloc (.cells #[.int .u64 r1S, .int .u64 r2S] 24)) (w.heap.size + 1 + 1) 24 #[.int .u64 0, .int .u64 0] := Sn.bk_old (HR2.out) _
        have hr3 : Sn.Bk (v.alloc (.cells #[.int .u64 r1S, .int .u64 r2S] 24)) (b) 24 #[.int .u64 p1, .int .u64 p2] := Sn.bk_old (HR3.out) _
        have hr4 : Sn.Bk (v.alloc (.cells #[.int .u64 r1S, .int .u64 r2S] 24)) (c) 24 #[.int .u64 q1, .int .u64 q2] := Sn.bk_old (HR4.out) _
        have hr5 : Sn.Bk (v.alloc (.cells #[.int .u64 r1S, .int .u64 r2S] 24)) (v.heap.size) 24 #[.int .u64 r1S, .int .u64 r2S] := Sn.bk_new _ _ _
        clear HB HR2 HR3 HR4
        generalize (v.alloc (.cells #[.int .u64 r1S, .int .u64 r2S] 24)) = u at *
        generalize v.heap.size = b5 at *
        clear v
        rename World => v
        have HB := Lib.hid hB
        have HR2 := Lib.hid hr2
        have HR3 := Lib.hid hr3
        have HR4 := Lib.hid hr4
        have HR5 := Lib.hid hr5
        clear hB hr2 hr3 hr4 hr5
        go_wp2_with (first | (with_reducible refine Sn.load_sp (.tmp 11) (b) #[.int .u64 p1, .int .u64 p2] HR3.out rfl rfl rfl rfl ?_) | (with_reducible refine Sn.load_sp (.tmp 12) (c) #[.int .u64 q1, .int .u64 q2] HR4.out rfl rfl rfl rfl ?_))
        refine (HC.out v).mono ?_
        rintro e v2 ⟨rfl, hb⟩
        have hr2 := Sn.bk_below HR2.out hb (Sn.bk_lt HR2.out)
        have hr3 := Sn.bk_below HR3.out hb (Sn.bk_lt HR3.out)
        have hr4 := Sn.bk_below HR4.out hb (Sn.bk_lt HR4.out)
        have hr5 := Sn.bk_below HR5.out hb (Sn.bk_lt HR5.out)
        have hB := Sn.below_next HB.out hb HB.out.size
        clear HB HR2 HR3 HR4 HR5 hb
        have HB := Lib.hid hB
        have HR2 := Lib.hid hr2
        have HR3 := Lib.hid hr3
        have HR4 := Lib.hid hr4
        have HR5 := Lib.hid hr5
        clear hB hr2 hr3 hr4 hr5
        clear v
        rename World => v
        clear HR3 HR4
        go_upto_region 19 with (with_reducible refine Sn.store_sp (.tmp 15) (.tmp 101) b5 #[.int .u64 r1S, .int .u64 r2S] #[.int .u64 r1P, .int .u64 r2P] HR5.out rfl rfl rfl rfl rfl rfl (by simp [Value.oneCell']) ?_)
        have hB : Below w.heap.size w (v.setRow b5 #[.int .u64 r1P, .int .u64 r2P]) := Sn.below_set HB.out (by omega) _
        have hr2 : Sn.Bk (v.setRow b5 #[.int .u64 r1P, .int .u64 r2P]) (w.heap.size + 1 + 1) 24 #[.int .u64 0, .int .u64 0] := Sn.bk_row_other HR2.out (by omega) _
        have hr5 : Sn.Bk (v.setRow b5 #[.int .u64 r1P, .int .u64 r2P]) b5 24 #[.int .u64 r1P, .int .u64 r2P] := Sn.bk_row HR5.out _
        clear HB HR2 HR5
        generalize (v.setRow b5 #[.int .u64 r1P, .int .u64 r2P]) = v9 at *
        clear v
        rename World => v
        have HB := Lib.hid hB
        have HR2 := Lib.hid hr2
        have HR5 := Lib.hid hr5
        clear hB hr2 hr5
        go_wp2_with (first | (with_reducible refine Sn.load_sp (.tmp 15) (b5) #[.int .u64 r1P, .int .u64 r2P] HR5.out rfl rfl rfl rfl ?_) | (with_reducible refine Sn.store_sp (.tmp 8) (.tmp 118) (w.heap.size + 1 + 1) #[.int .u64 0, .int .u64 0] #[.int .u64 r1P, .int .u64 r2P] HR2.out rfl rfl rfl rfl rfl rfl (by simp [Value.oneCell']) ?_))
        refine Sn.ret_sp (w.heap.size + 1 + 1) _ (Sn.bk_row HR2.out _) rfl rfl rfl rfl ?_
        exact ⟨by first | (rw [HRES.out]; done) | (rw [HRES.out]; rfl), Sn.below_set HB.out (by omega) _⟩
      | false =>
        have HRES := Lib.hid ((Sn.ap_tab hne).trans HT.out)
        clear hne
        have c3_0 := Sn.bk_c HR3.out 0
        have c3_1 := Sn.bk_c HR3.out 1
        have c4_0 := Sn.bk_c HR4.out 0
        have c4_1 := Sn.bk_c HR4.out 1
        simp only [List.getElem?_toArray, List.getElem?_cons_zero, List.getElem?_cons_succ] at c3_0 c3_1 c4_0 c4_1
        go_wp2_with (first | (with_reducible refine Sn.load_sp (.tmp 11) (b) #[.int .u64 p1, .int .u64 p2] HR3.out rfl rfl rfl rfl ?_) | (with_reducible refine Sn.load_sp (.tmp 12) (c) #[.int .u64 q1, .int .u64 q2] HR4.out rfl rfl rfl rfl ?_))
        clear c3_0 c3_1 c4_0 c4_1
        refine (HS.out v).mono ?_
        rintro e v2 ⟨rfl, hb⟩
        have hr2 := Sn.bk_below HR2.out hb (Sn.bk_lt HR2.out)
        have hr3 := Sn.bk_below HR3.out hb (Sn.bk_lt HR3.out)
        have hr4 := Sn.bk_below HR4.out hb (Sn.bk_lt HR4.out)
        have hB := Sn.below_next HB.out hb HB.out.size
        clear HB HR2 HR3 HR4 hb
        have HB := Lib.hid hB
        have HR2 := Lib.hid hr2
        have HR3 := Lib.hid hr3
        have HR4 := Lib.hid hr4
        clear hB hr2 hr3 hr4
        clear v
        rename World => v
        go_upto_region 15 with (fail)
        have g5 := HB.out.size
        have l5 := Sn.bk_lt HR2.out
        have hB : Below w.heap.size w (v.alloc (.cells #[.int .u64 r1S, .int .u64 r2S] 24)) := (HB.out).alloc (by exact HB.out.size) _
        have hr2 : Sn.Bk (v.alloc (.cells #[.int .u64 r1S, .int .u64 r2S] 24)) (w.heap.size + 1 + 1) 24 #[.int .u64 0, .int .u64 0] := Sn.bk_old (HR2.out) _
        have hr3 : Sn.Bk (v.alloc (.cells #[.int .u64 r1S, .int .u64 r2S] 24)) (b) 24 #[.int .u64 p1, .int .u64 p2] := Sn.bk_old (HR3.out) _
        have hr4 : Sn.Bk (v.alloc (.cells #[.int .u64 r1S, .int .u64 r2S] 24)) (c) 24 #[.int .u64 q1, .int .u64 q2] := Sn.bk_old (HR4.out) _
        have hr5 : Sn.Bk (v.alloc (.cells #[.int .u64 r1S, .int .u64 r2S] 24)) (v.heap.size) 24 #[.int .u64 r1S, .int .u64 r2S] := Sn.bk_new _ _ _
        clear HB HR2 HR3 HR4
        generalize (v.alloc (.cells #[.int .u64 r1S, .int .u64 r2S] 24)) = u at *
        generalize v.heap.size = b5 at *
        clear v
        rename World => v
        have HB := Lib.hid hB
        have HR2 := Lib.hid hr2
        have HR3 := Lib.hid hr3
        have HR4 := Lib.hid hr4
        have HR5 := Lib.hid hr5
        clear hB hr2 hr3 hr4 hr5
        go_wp2_with (first | (with_reducible refine Sn.load_sp (.tmp 11) (b) #[.int .u64 p1, .int .u64 p2] HR3.out rfl rfl rfl rfl ?_) | (with_reducible refine Sn.load_sp (.tmp 12) (c) #[.int .u64 q1, .int .u64 q2] HR4.out rfl rfl rfl rfl ?_))
        refine (HC.out v).mono ?_
        rintro e v2 ⟨rfl, hb⟩
        have hr2 := Sn.bk_below HR2.out hb (Sn.bk_lt HR2.out)
        have hr3 := Sn.bk_below HR3.out hb (Sn.bk_lt HR3.out)
        have hr4 := Sn.bk_below HR4.out hb (Sn.bk_lt HR4.out)
        have hr5 := Sn.bk_below HR5.out hb (Sn.bk_lt HR5.out)
        have hB := Sn.below_next HB.out hb HB.out.size
        clear HB HR2 HR3 HR4 HR5 hb
        have HB := Lib.hid hB
        have HR2 := Lib.hid hr2
        have HR3 := Lib.hid hr3
        have HR4 := Lib.hid hr4
        have HR5 := Lib.hid hr5
        clear hB hr2 hr3 hr4 hr5
        clear v
        rename World => v
        clear HR3 HR4
        go_upto_region 19 with (with_reducible refine Sn.store_sp (.tmp 15) (.tmp 101) b5 #[.int .u64 r1S, .int .u64 r2S] #[.int .u64 r1P, .int .u64 r2P] HR5.out rfl rfl rfl rfl rfl rfl (by simp [Value.oneCell']) ?_)
        have hB : Below w.heap.size w (v.setRow b5 #[.int .u64 r1P, .int .u64 r2P]) := Sn.below_set HB.out (by omega) _
        have hr2 : Sn.Bk (v.setRow b5 #[.int .u64 r1P, .int .u64 r2P]) (w.heap.size + 1 + 1) 24 #[.int .u64 0, .int .u64 0] := Sn.bk_row_other HR2.out (by omega) _
        have hr5 : Sn.Bk (v.setRow b5 #[.int .u64 r1P, .int .u64 r2P]) b5 24 #[.int .u64 r1P, .int .u64 r2P] := Sn.bk_row HR5.out _
        clear HB HR2 HR5
        generalize (v.setRow b5 #[.int .u64 r1P, .int .u64 r2P]) = v9 at *
        clear v
        rename World => v
        have HB := Lib.hid hB
        have HR2 := Lib.hid hr2
        have HR5 := Lib.hid hr5
        clear hB hr2 hr5
        go_wp2_with (with_reducible refine Sn.store_sp (.tmp 8) (.tmp 117) (w.heap.size + 1 + 1) #[.int .u64 0, .int .u64 0] #[.int .u64 0, .int .u64 (Wd.msk a)] HR2.out rfl rfl rfl rfl rfl rfl (by simp [Value.oneCell']) ?_)
        refine Sn.ret_sp (w.heap.size + 1 + 1) _ (Sn.bk_row HR2.out _) rfl rfl rfl rfl ?_
        exact ⟨by first | (rw [HRES.out]; done) | (rw [HRES.out]; rfl), Sn.below_set HB.out (by omega) _⟩
    · obtain ⟨hk, hnp⟩ := hyp
      have hn : 5 ≤ op ∧ op ≤ 21 ∧ op ≠ 6 ∧ op ≠ 7 := by omega
      have HT := Lib.hid (HTH.out hk)
      have HC := Lib.hid (HCH.out hk)
      have HS := Lib.hid HCS.out
      clear HRESP HHA HTS HCS HTP HCP HTH HCH HTT HCT H012
      by_cases hp : p1 = p2
      · have hq : ¬ q1 = q2 := fun h => hnp ⟨hp, .inr h⟩
        have h5 : ¬ op = 5 := fun h => hnp ⟨hp, .inl h⟩
        clear hnp
        have o1 : decide (op < 5) = false := by simp; omega
        have o2 : decide (op > 21) = false := by simp; omega
        have o3 : (op == 6) = false := by simp; omega
        have o4 : (op == 7) = false := by simp; omega
        have o5 : (op == 5) = false := by simp; omega
        have k1 : (p1 == p2) = true := by simp; exact hp
        have k2 : (q1 == q2) = false := by simp; exact hq
        have hne : ¬ ((p1, p2).1 = (p1, p2).2 ∧ (q1, q2).1 = (q1, q2).2) := fun h => hq h.2
        have o19 : decide (op ≥ 19) = false := by simp; omega
        have o11 : decide (op ≥ 11) = true := by simp; omega
        have o15 : decide (op ≤ 15) = false := by simp; omega
        have o16 : decide (op ≥ 16) = true := by simp; omega
        clear hp hn hk hq
        try clear h5
        cases okH with
        | true =>
          have HRES := Lib.hid ((Sn.ap_tab hne).trans HT.out)
          clear hne
          have c3_0 := Sn.bk_c HR3.out 0
          have c3_1 := Sn.bk_c HR3.out 1
          have c4_0 := Sn.bk_c HR4.out 0
          have c4_1 := Sn.bk_c HR4.out 1
          simp only [List.getElem?_toArray, List.getElem?_cons_zero, List.getElem?_cons_succ] at c3_0 c3_1 c4_0 c4_1
          go_wp2_with (first | (with_reducible refine Sn.load_sp (.tmp 11) (b) #[.int .u64 p1, .int .u64 p2] HR3.out rfl rfl rfl rfl ?_) | (with_reducible refine Sn.load_sp (.tmp 12) (c) #[.int .u64 q1, .int .u64 q2] HR4.out rfl rfl rfl rfl ?_))
          clear c3_0 c3_1 c4_0 c4_1
          refine (HS.out v).mono ?_
          rintro e v2 ⟨rfl, hb⟩
          have hr2 := Sn.bk_below HR2.out hb (Sn.bk_lt HR2.out)
          have hr3 := Sn.bk_below HR3.out hb (Sn.bk_lt HR3.out)
          have hr4 := Sn.bk_below HR4.out hb (Sn.bk_lt HR4.out)
          have hB := Sn.below_next HB.out hb HB.out.size
          clear HB HR2 HR3 HR4 hb
          have HB := Lib.hid hB
          have HR2 := Lib.hid hr2
          have HR3 := Lib.hid hr3
          have HR4 := Lib.hid hr4
          clear hB hr2 hr3 hr4
          clear v
          rename World => v
          go_upto_region 15 with (fail)
          have g5 := HB.out.size
          have l5 := Sn.bk_lt HR2.out
          have hB : Below w.heap.size w (v.alloc (.cells #[.int .u64 r1S, .int .u64 r2S] 24)) := (HB.out).alloc (by exact HB.out.size) _
          have hr2 : Sn.Bk (v.alloc (.cells #[.int .u64 r1S, .int .u64 r2S] 24)) (w.heap.size + 1 + 1) 24 #[.int .u64 0, .int .u64 0] := Sn.bk_old (HR2.out) _
          have hr3 : Sn.Bk (v.alloc (.cells #[.int .u64 r1S, .int .u64 r2S] 24)) (b) 24 #[.int .u64 p1, .int .u64 p2] := Sn.bk_old (HR3.out) _
          have hr4 : Sn.Bk (v.alloc (.cells #[.int .u64 r1S, .int .u64 r2S] 24)) (c) 24 #[.int .u64 q1, .int .u64 q2] := Sn.bk_old (HR4.out) _
          have hr5 : Sn.Bk (v.alloc (.cells #[.int .u64 r1S, .int .u64 r2S] 24)) (v.heap.size) 24 #[.int .u64 r1S, .int .u64 r2S] := Sn.bk_new _ _ _
          clear HB HR2 HR3 HR4
          generalize (v.alloc (.cells #[.int .u64 r1S, .int .u64 r2S] 24)) = u at *
          generalize v.heap.size = b5 at *
          clear v
          rename World => v
          have HB := Lib.hid hB
          have HR2 := Lib.hid hr2
          have HR3 := Lib.hid hr3
          have HR4 := Lib.hid hr4
          have HR5 := Lib.hid hr5
          clear hB hr2 hr3 hr4 hr5
          go_wp2_with (first | (with_reducible refine Sn.load_sp (.tmp 11) (b) #[.int .u64 p1, .int .u64 p2] HR3.out rfl rfl rfl rfl ?_) | (with_reducible refine Sn.load_sp (.tmp 12) (c) #[.int .u64 q1, .int .u64 q2] HR4.out rfl rfl rfl rfl ?_))
          refine (HC.out v).mono ?_
          rintro e v2 ⟨rfl, hb⟩
          have hr2 := Sn.bk_below HR2.out hb (Sn.bk_lt HR2.out)
          have hr3 := Sn.bk_below HR3.out hb (Sn.bk_lt HR3.out)
          have hr4 := Sn.bk_below HR4.out hb (Sn.bk_lt HR4.out)
          have hr5 := Sn.bk_below HR5.out hb (Sn.bk_lt HR5.out)
          have hB := Sn.below_next HB.out hb HB.out.size
          clear HB HR2 HR3 HR4 HR5 hb
          have HB := Lib.hid hB
          have HR2 := Lib.hid hr2
          have HR3 := Lib.hid hr3
          have HR4 := Lib.hid hr4
          have HR5 := Lib.hid hr5
          clear hB hr2 hr3 hr4 hr5
          clear v
          rename World => v
          clear HR3 HR4
          go_upto_region 19 with (with_reducible refine Sn.store_sp (.tmp 15) (.tmp 112) b5 #[.int .u64 r1S, .int .u64 r2S] #[.int .u64 r1H, .int .u64 r2H] HR5.out rfl rfl rfl rfl rfl rfl (by simp [Value.oneCell']) ?_)
          have hB : Below w.heap.size w (v.setRow b5 #[.int .u64 r1H, .int .u64 r2H]) := Sn.below_set HB.out (by omega) _
          have hr2 : Sn.Bk (v.setRow b5 #[.int .u64 r1H, .int .u64 r2H]) (w.heap.size + 1 + 1) 24 #[.int .u64 0, .int .u64 0] := Sn.bk_row_other HR2.out (by omega) _
          have hr5 : Sn.Bk (v.setRow b5 #[.int .u64 r1H, .int .u64 r2H]) b5 24 #[.int .u64 r1H, .int .u64 r2H] := Sn.bk_row HR5.out _
          clear HB HR2 HR5
          generalize (v.setRow b5 #[.int .u64 r1H, .int .u64 r2H]) = v9 at *
          clear v
          rename World => v
          have HB := Lib.hid hB
          have HR2 := Lib.hid hr2
          have HR5 := Lib.hid hr5
          clear hB hr2 hr5
          go_wp2_with (first | (with_reducible refine Sn.load_sp (.tmp 15) (b5) #[.int .u64 r1H, .int .u64 r2H] HR5.out rfl rfl rfl rfl ?_) | (with_reducible refine Sn.store_sp (.tmp 8) (.tmp 118) (w.heap.size + 1 + 1) #[.int .u64 0, .int .u64 0] #[.int .u64 r1H, .int .u64 r2H] HR2.out rfl rfl rfl rfl rfl rfl (by simp [Value.oneCell']) ?_))
          refine Sn.ret_sp (w.heap.size + 1 + 1) _ (Sn.bk_row HR2.out _) rfl rfl rfl rfl ?_
          exact ⟨by first | (rw [HRES.out]; done) | (rw [HRES.out]; rfl), Sn.below_set HB.out (by omega) _⟩
        | false =>
          have HRES := Lib.hid ((Sn.ap_tab hne).trans HT.out)
          clear hne
          have c3_0 := Sn.bk_c HR3.out 0
          have c3_1 := Sn.bk_c HR3.out 1
          have c4_0 := Sn.bk_c HR4.out 0
          have c4_1 := Sn.bk_c HR4.out 1
          simp only [List.getElem?_toArray, List.getElem?_cons_zero, List.getElem?_cons_succ] at c3_0 c3_1 c4_0 c4_1
          go_wp2_with (first | (with_reducible refine Sn.load_sp (.tmp 11) (b) #[.int .u64 p1, .int .u64 p2] HR3.out rfl rfl rfl rfl ?_) | (with_reducible refine Sn.load_sp (.tmp 12) (c) #[.int .u64 q1, .int .u64 q2] HR4.out rfl rfl rfl rfl ?_))
          clear c3_0 c3_1 c4_0 c4_1
          refine (HS.out v).mono ?_
          rintro e v2 ⟨rfl, hb⟩
          have hr2 := Sn.bk_below HR2.out hb (Sn.bk_lt HR2.out)
          have hr3 := Sn.bk_below HR3.out hb (Sn.bk_lt HR3.out)
          have hr4 := Sn.bk_below HR4.out hb (Sn.bk_lt HR4.out)
          have hB := Sn.below_next HB.out hb HB.out.size
          clear HB HR2 HR3 HR4 hb
          have HB := Lib.hid hB
          have HR2 := Lib.hid hr2
          have HR3 := Lib.hid hr3
          have HR4 := Lib.hid hr4
          clear hB hr2 hr3 hr4
          clear v
          rename World => v
          go_upto_region 15 with (fail)
          have g5 := HB.out.size
          have l5 := Sn.bk_lt HR2.out
          have hB : Below w.heap.size w (v.alloc (.cells #[.int .u64 r1S, .int .u64 r2S] 24)) := (HB.out).alloc (by exact HB.out.size) _
          have hr2 : Sn.Bk (v.alloc (.cells #[.int .u64 r1S, .int .u64 r2S] 24)) (w.heap.size + 1 + 1) 24 #[.int .u64 0, .int .u64 0] := Sn.bk_old (HR2.out) _
          have hr3 : Sn.Bk (v.alloc (.cells #[.int .u64 r1S, .int .u64 r2S] 24)) (b) 24 #[.int .u64 p1, .int .u64 p2] := Sn.bk_old (HR3.out) _
          have hr4 : Sn.Bk (v.alloc (.cells #[.int .u64 r1S, .int .u64 r2S] 24)) (c) 24 #[.int .u64 q1, .int .u64 q2] := Sn.bk_old (HR4.out) _
          have hr5 : Sn.Bk (v.alloc (.cells #[.int .u64 r1S, .int .u64 r2S] 24)) (v.heap.size) 24 #[.int .u64 r1S, .int .u64 r2S] := Sn.bk_new _ _ _
          clear HB HR2 HR3 HR4
          generalize (v.alloc (.cells #[.int .u64 r1S, .int .u64 r2S] 24)) = u at *
          generalize v.heap.size = b5 at *
          clear v
          rename World => v
          have HB := Lib.hid hB
          have HR2 := Lib.hid hr2
          have HR3 := Lib.hid hr3
          have HR4 := Lib.hid hr4
          have HR5 := Lib.hid hr5
          clear hB hr2 hr3 hr4 hr5
          go_wp2_with (first | (with_reducible refine Sn.load_sp (.tmp 11) (b) #[.int .u64 p1, .int .u64 p2] HR3.out rfl rfl rfl rfl ?_) | (with_reducible refine Sn.load_sp (.tmp 12) (c) #[.int .u64 q1, .int .u64 q2] HR4.out rfl rfl rfl rfl ?_))
          refine (HC.out v).mono ?_
          rintro e v2 ⟨rfl, hb⟩
          have hr2 := Sn.bk_below HR2.out hb (Sn.bk_lt HR2.out)
          have hr3 := Sn.bk_below HR3.out hb (Sn.bk_lt HR3.out)
          have hr4 := Sn.bk_below HR4.out hb (Sn.bk_lt HR4.out)
          have hr5 := Sn.bk_below HR5.out hb (Sn.bk_lt HR5.out)
          have hB := Sn.below_next HB.out hb HB.out.size
          clear HB HR2 HR3 HR4 HR5 hb
          have HB := Lib.hid hB
          have HR2 := Lib.hid hr2
          have HR3 := Lib.hid hr3
          have HR4 := Lib.hid hr4
          have HR5 := Lib.hid hr5
          clear hB hr2 hr3 hr4 hr5
          clear v
          rename World => v
          clear HR3 HR4
          go_upto_region 19 with (with_reducible refine Sn.store_sp (.tmp 15) (.tmp 112) b5 #[.int .u64 r1S, .int .u64 r2S] #[.int .u64 r1H, .int .u64 r2H] HR5.out rfl rfl rfl rfl rfl rfl (by simp [Value.oneCell']) ?_)
          have hB : Below w.heap.size w (v.setRow b5 #[.int .u64 r1H, .int .u64 r2H]) := Sn.below_set HB.out (by omega) _
          have hr2 : Sn.Bk (v.setRow b5 #[.int .u64 r1H, .int .u64 r2H]) (w.heap.size + 1 + 1) 24 #[.int .u64 0, .int .u64 0] := Sn.bk_row_other HR2.out (by omega) _
          have hr5 : Sn.Bk (v.setRow b5 #[.int .u64 r1H, .int .u64 r2H]) b5 24 #[.int .u64 r1H, .int .u64 r2H] := Sn.bk_row HR5.out _
          clear HB HR2 HR5
          generalize (v.setRow b5 #[.int .u64 r1H, .int .u64 r2H]) = v9 at *
          clear v
          rename World => v
          have HB := Lib.hid hB
          have HR2 := Lib.hid hr2
          have HR5 := Lib.hid hr5
          clear hB hr2 hr5
          go_wp2_with (with_reducible refine Sn.store_sp (.tmp 8) (.tmp 117) (w.heap.size + 1 + 1) #[.int .u64 0, .int .u64 0] #[.int .u64 0, .int .u64 (Wd.msk a)] HR2.out rfl rfl rfl rfl rfl rfl (by simp [Value.oneCell']) ?_)
          refine Sn.ret_sp (w.heap.size + 1 + 1) _ (Sn.bk_row HR2.out _) rfl rfl rfl rfl ?_
          exact ⟨by first | (rw [HRES.out]; done) | (rw [HRES.out]; rfl), Sn.below_set HB.out (by omega) _⟩
      clear hnp
      have o1 : decide (op < 5) = false := by simp; omega
      have o2 : decide (op > 21) = false := by simp; omega
      have o3 : (op == 6) = false := by simp; omega
      have o4 : (op == 7) = false := by simp; omega
      have o5 : (op == 5) = false := by simp; omega
      have k1 : (p1 == p2) = false := by simp; exact hp
      have hne : ¬ ((p1, p2).1 = (p1, p2).2 ∧ (q1, q2).1 = (q1, q2).2) := fun h => hp h.1
      have o19 : decide (op ≥ 19) = false := by simp; omega
      have o11 : decide (op ≥ 11) = true := by simp; omega
      have o15 : decide (op ≤ 15) = false := by simp; omega
      have o16 : decide (op ≥ 16) = true := by simp; omega
      clear hp hn hk
      try clear h5
      cases okH with
      | true =>
        have HRES := Lib.hid ((Sn.ap_tab hne).trans HT.out)
        clear hne
        have c3_0 := Sn.bk_c HR3.out 0
        have c3_1 := Sn.bk_c HR3.out 1
        have c4_0 := Sn.bk_c HR4.out 0
        have c4_1 := Sn.bk_c HR4.out 1
        simp only [List.getElem?_toArray, List.getElem?_cons_zero, List.getElem?_cons_succ] at c3_0 c3_1 c4_0 c4_1
        go_wp2_with (first | (with_reducible refine Sn.load_sp (.tmp 11) (b) #[.int .u64 p1, .int .u64 p2] HR3.out rfl rfl rfl rfl ?_) | (with_reducible refine Sn.load_sp (.tmp 12) (c) #[.int .u64 q1, .int .u64 q2] HR4.out rfl rfl rfl rfl ?_))
        clear c3_0 c3_1 c4_0 c4_1
        refine (HS.out v).mono ?_
        rintro e v2 ⟨rfl, hb⟩
        have hr2 := Sn.bk_below HR2.out hb (Sn.bk_lt HR2.out)
        have hr3 := Sn.bk_below HR3.out hb (Sn.bk_lt HR3.out)
        have hr4 := Sn.bk_below HR4.out hb (Sn.bk_lt HR4.out)
        have hB := Sn.below_next HB.out hb HB.out.size
        clear HB HR2 HR3 HR4 hb
        have HB := Lib.hid hB
        have HR2 := Lib.hid hr2
        have HR3 := Lib.hid hr3
        have HR4 := Lib.hid hr4
        clear hB hr2 hr3 hr4
        clear v
        rename World => v
        go_upto_region 15 with (fail)
        have g5 := HB.out.size
        have l5 := Sn.bk_lt HR2.out
        have hB : Below w.heap.size w (v.alloc (.cells #[.int .u64 r1S, .int .u64 r2S] 24)) := (HB.out).alloc (by exact HB.out.size) _
        have hr2 : Sn.Bk (v.alloc (.cells #[.int .u64 r1S, .int .u64 r2S] 24)) (w.heap.size + 1 + 1) 24 #[.int .u64 0, .int .u64 0] := Sn.bk_old (HR2.out) _
        have hr3 : Sn.Bk (v.alloc (.cells #[.int .u64 r1S, .int .u64 r2S] 24)) (b) 24 #[.int .u64 p1, .int .u64 p2] := Sn.bk_old (HR3.out) _
        have hr4 : Sn.Bk (v.alloc (.cells #[.int .u64 r1S, .int .u64 r2S] 24)) (c) 24 #[.int .u64 q1, .int .u64 q2] := Sn.bk_old (HR4.out) _
        have hr5 : Sn.Bk (v.alloc (.cells #[.int .u64 r1S, .int .u64 r2S] 24)) (v.heap.size) 24 #[.int .u64 r1S, .int .u64 r2S] := Sn.bk_new _ _ _
        clear HB HR2 HR3 HR4
        generalize (v.alloc (.cells #[.int .u64 r1S, .int .u64 r2S] 24)) = u at *
        generalize v.heap.size = b5 at *
        clear v
        rename World => v
        have HB := Lib.hid hB
        have HR2 := Lib.hid hr2
        have HR3 := Lib.hid hr3
        have HR4 := Lib.hid hr4
        have HR5 := Lib.hid hr5
        clear hB hr2 hr3 hr4 hr5
        go_wp2_with (first | (with_reducible refine Sn.load_sp (.tmp 11) (b) #[.int .u64 p1, .int .u64 p2] HR3.out rfl rfl rfl rfl ?_) | (with_reducible refine Sn.load_sp (.tmp 12) (c) #[.int .u64 q1, .int .u64 q2] HR4.out rfl rfl rfl rfl ?_))
        refine (HC.out v).mono ?_
        rintro e v2 ⟨rfl, hb⟩
        have hr2 := Sn.bk_below HR2.out hb (Sn.bk_lt HR2.out)
        have hr3 := Sn.bk_below HR3.out hb (Sn.bk_lt HR3.out)
        have hr4 := Sn.bk_below HR4.out hb (Sn.bk_lt HR4.out)
        have hr5 := Sn.bk_below HR5.out hb (Sn.bk_lt HR5.out)
        have hB := Sn.below_next HB.out hb HB.out.size
        clear HB HR2 HR3 HR4 HR5 hb
        have HB := Lib.hid hB
        have HR2 := Lib.hid hr2
        have HR3 := Lib.hid hr3
        have HR4 := Lib.hid hr4
        have HR5 := Lib.hid hr5
        clear hB hr2 hr3 hr4 hr5
        clear v
        rename World => v
        clear HR3 HR4
        go_upto_region 19 with (with_reducible refine Sn.store_sp (.tmp 15) (.tmp 112) b5 #[.int .u64 r1S, .int .u64 r2S] #[.int .u64 r1H, .int .u64 r2H] HR5.out rfl rfl rfl rfl rfl rfl (by simp [Value.oneCell']) ?_)
        have hB : Below w.heap.size w (v.setRow b5 #[.int .u64 r1H, .int .u64 r2H]) := Sn.below_set HB.out (by omega) _
        have hr2 : Sn.Bk (v.setRow b5 #[.int .u64 r1H, .int .u64 r2H]) (w.heap.size + 1 + 1) 24 #[.int .u64 0, .int .u64 0] := Sn.bk_row_other HR2.out (by omega) _
        have hr5 : Sn.Bk (v.setRow b5 #[.int .u64 r1H, .int .u64 r2H]) b5 24 #[.int .u64 r1H, .int .u64 r2H] := Sn.bk_row HR5.out _
        clear HB HR2 HR5
        generalize (v.setRow b5 #[.int .u64 r1H, .int .u64 r2H]) = v9 at *
        clear v
        rename World => v
        have HB := Lib.hid hB
        have HR2 := Lib.hid hr2
        have HR5 := Lib.hid hr5
        clear hB hr2 hr5
        go_wp2_with (first | (with_reducible refine Sn.load_sp (.tmp 15) (b5) #[.int .u64 r1H, .int .u64 r2H] HR5.out rfl rfl rfl rfl ?_) | (with_reducible refine Sn.store_sp (.tmp 8) (.tmp 118) (w.heap.size + 1 + 1) #[.int .u64 0, .int .u64 0] #[.int .u64 r1H, .int .u64 r2H] HR2.out rfl rfl rfl rfl rfl rfl (by simp [Value.oneCell']) ?_))
        refine Sn.ret_sp (w.heap.size + 1 + 1) _ (Sn.bk_row HR2.out _) rfl rfl rfl rfl ?_
        exact ⟨by first | (rw [HRES.out]; done) | (rw [HRES.out]; rfl), Sn.below_set HB.out (by omega) _⟩
      | false =>
        have HRES := Lib.hid ((Sn.ap_tab hne).trans HT.out)
        clear hne
        have c3_0 := Sn.bk_c HR3.out 0
        have c3_1 := Sn.bk_c HR3.out 1
        have c4_0 := Sn.bk_c HR4.out 0
        have c4_1 := Sn.bk_c HR4.out 1
        simp only [List.getElem?_toArray, List.getElem?_cons_zero, List.getElem?_cons_succ] at c3_0 c3_1 c4_0 c4_1
        go_wp2_with (first | (with_reducible refine Sn.load_sp (.tmp 11) (b) #[.int .u64 p1, .int .u64 p2] HR3.out rfl rfl rfl rfl ?_) | (with_reducible refine Sn.load_sp (.tmp 12) (c) #[.int .u64 q1, .int .u64 q2] HR4.out rfl rfl rfl rfl ?_))
        clear c3_0 c3_1 c4_0 c4_1
        refine (HS.out v).mono ?_
        rintro e v2 ⟨rfl, hb⟩
        have hr2 := Sn.bk_below HR2.out hb (Sn.bk_lt HR2.out)
        have hr3 := Sn.bk_below HR3.out hb (Sn.bk_lt HR3.out)
        have hr4 := Sn.bk_below HR4.out hb (Sn.bk_lt HR4.out)
        have hB := Sn.below_next HB.out hb HB.out.size
        clear HB HR2 HR3 HR4 hb
        have HB := Lib.hid hB
        have HR2 := Lib.hid hr2
        have HR3 := Lib.hid hr3
        have HR4 := Lib.hid hr4
        clear hB hr2 hr3 hr4
        clear v
        rename World => v
        go_upto_region 15 with (fail)
        have g5 := HB.out.size
        have l5 := Sn.bk_lt HR2.out
        have hB : Below w.heap.size w (v.alloc (.cells #[.int .u64 r1S, .int .u64 r2S] 24)) := (HB.out).alloc (by exact HB.out.size) _
        have hr2 : Sn.Bk (v.alloc (.cells #[.int .u64 r1S, .int .u64 r2S] 24)) (w.heap.size + 1 + 1) 24 #[.int .u64 0, .int .u64 0] := Sn.bk_old (HR2.out) _
        have hr3 : Sn.Bk (v.alloc (.cells #[.int .u64 r1S, .int .u64 r2S] 24)) (b) 24 #[.int .u64 p1, .int .u64 p2] := Sn.bk_old (HR3.out) _
        have hr4 : Sn.Bk (v.alloc (.cells #[.int .u64 r1S, .int .u64 r2S] 24)) (c) 24 #[.int .u64 q1, .int .u64 q2] := Sn.bk_old (HR4.out) _
        have hr5 : Sn.Bk (v.alloc (.cells #[.int .u64 r1S, .int .u64 r2S] 24)) (v.heap.size) 24 #[.int .u64 r1S, .int .u64 r2S] := Sn.bk_new _ _ _
        clear HB HR2 HR3 HR4
        generalize (v.alloc (.cells #[.int .u64 r1S, .int .u64 r2S] 24)) = u at *
        generalize v.heap.size = b5 at *
        clear v
        rename World => v
        have HB := Lib.hid hB
        have HR2 := Lib.hid hr2
        have HR3 := Lib.hid hr3
        have HR4 := Lib.hid hr4
        have HR5 := Lib.hid hr5
        clear hB hr2 hr3 hr4 hr5
        go_wp2_with (first | (with_reducible refine Sn.load_sp (.tmp 11) (b) #[.int .u64 p1, .int .u64 p2] HR3.out rfl rfl rfl rfl ?_) | (with_reducible refine Sn.load_sp (.tmp 12) (c) #[.int .u64 q1, .int .u64 q2] HR4.out rfl rfl rfl rfl ?_))
        refine (HC.out v).mono ?_
        rintro e v2 ⟨rfl, hb⟩
        have hr2 := Sn.bk_below HR2.out hb (Sn.bk_lt HR2.out)
        have hr3 := Sn.bk_below HR3.out hb (Sn.bk_lt HR3.out)
        have hr4 := Sn.bk_below HR4.out hb (Sn.bk_lt HR4.out)
        have hr5 := Sn.bk_below HR5.out hb (Sn.bk_lt HR5.out)
        have hB := Sn.below_next HB.out hb HB.out.size
        clear HB HR2 HR3 HR4 HR5 hb
        have HB := Lib.hid hB
        have HR2 := Lib.hid hr2
        have HR3 := Lib.hid hr3
        have HR4 := Lib.hid hr4
        have HR5 := Lib.hid hr5
        clear hB hr2 hr3 hr4 hr5
        clear v
        rename World => v
        clear HR3 HR4
        go_upto_region 19 with (with_reducible refine Sn.store_sp (.tmp 15) (.tmp 112) b5 #[.int .u64 r1S, .int .u64 r2S] #[.int .u64 r1H, .int .u64 r2H] HR5.out rfl rfl rfl rfl rfl rfl (by simp [Value.oneCell']) ?_)
        have hB : Below w.heap.size w (v.setRow b5 #[.int .u64 r1H, .int .u64 r2H]) := Sn.below_set HB.out (by omega) _
        have hr2 : Sn.Bk (v.setRow b5 #[.int .u64 r1H, .int .u64 r2H]) (w.heap.size + 1 + 1) 24 #[.int .u64 0, .int .u64 0] := Sn.bk_row_other HR2.out (by omega) _
        have hr5 : Sn.Bk (v.setRow b5 #[.int .u64 r1H, .int .u64 r2H]) b5 24 #[.int .u64 r1H, .int .u64 r2H] := Sn.bk_row HR5.out _
        clear HB HR2 HR5
        generalize (v.setRow b5 #[.int .u64 r1H, .int .u64 r2H]) = v9 at *
        clear v
        rename World => v
        have HB := Lib.hid hB
        have HR2 := Lib.hid hr2
        have HR5 := Lib.hid hr5
        clear hB hr2 hr5
        go_wp2_with (with_reducible refine Sn.store_sp (.tmp 8) (.tmp 117) (w.heap.size + 1 + 1) #[.int .u64 0, .int .u64 0] #[.int .u64 0, .int .u64 (Wd.msk a)] HR2.out rfl rfl rfl rfl rfl rfl (by simp [Value.oneCell']) ?_)
        refine Sn.ret_sp (w.heap.size + 1 + 1) _ (Sn.bk_row HR2.out _) rfl rfl rfl rfl ?_
        exact ⟨by first | (rw [HRES.out]; done) | (rw [HRES.out]; rfl), Sn.below_set HB.out (by omega) _⟩
    · obtain ⟨hk, hnp⟩ := hyp
      have hn : 5 ≤ op ∧ op ≤ 21 ∧ op ≠ 6 ∧ op ≠ 7 := by omega
      have HT := Lib.hid (HTT.out hk)
      have HC := Lib.hid (HCT.out hk)
      clear HRESP HHA HTS HCS HTP HCP HTH HCH HTT HCT
      by_cases hp : p1 = p2
      · have hq : ¬ q1 = q2 := fun h => hnp ⟨hp, .inr h⟩
        have h5 : ¬ op = 5 := fun h => hnp ⟨hp, .inl h⟩
        clear hnp
        have o1 : decide (op < 5) = false := by simp; omega
        have o2 : decide (op > 21) = false := by simp; omega
        have o3 : (op == 6) = false := by simp; omega
        have o4 : (op == 7) = false := by simp; omega
        have o5 : (op == 5) = false := by simp; omega
        have k1 : (p1 == p2) = true := by simp; exact hp
        have k2 : (q1 == q2) = false := by simp; exact hq
        have hne : ¬ ((p1, p2).1 = (p1, p2).2 ∧ (q1, q2).1 = (q1, q2).2) := fun h => hq h.2
        have o19 : decide (op ≥ 19) = true := by simp; omega
        rcases H012.out with h3 | h3 | h3
        · subst h3
          have HRES := Lib.hid ((Sn.ap_tab hne).trans HT.out)
          clear hne
          clear hp hn hk hq
          try clear h5
          have c3_0 := Sn.bk_c HR3.out 0
          have c3_1 := Sn.bk_c HR3.out 1
          have c4_0 := Sn.bk_c HR4.out 0
          have c4_1 := Sn.bk_c HR4.out 1
          simp only [List.getElem?_toArray, List.getElem?_cons_zero, List.getElem?_cons_succ] at c3_0 c3_1 c4_0 c4_1
          go_wp2_with (first | (with_reducible refine Sn.load_sp (.tmp 11) (b) #[.int .u64 p1, .int .u64 p2] HR3.out rfl rfl rfl rfl ?_) | (with_reducible refine Sn.load_sp (.tmp 12) (c) #[.int .u64 q1, .int .u64 q2] HR4.out rfl rfl rfl rfl ?_))
          clear c3_0 c3_1 c4_0 c4_1
          refine (HC.out v).mono ?_
          rintro e v2 ⟨rfl, hb⟩
          have hr2 := Sn.bk_below HR2.out hb (Sn.bk_lt HR2.out)
          have hr3 := Sn.bk_below HR3.out hb (Sn.bk_lt HR3.out)
          have hr4 := Sn.bk_below HR4.out hb (Sn.bk_lt HR4.out)
          have hB := Sn.below_next HB.out hb HB.out.size
          clear HB HR2 HR3 HR4 hb
          have HB := Lib.hid hB
          have HR2 := Lib.hid hr2
          have HR3 := Lib.hid hr3
          have HR4 := Lib.hid hr4
          clear hB hr2 hr3 hr4
          clear v
          rename World => v
          go_wp2_with (with_reducible refine Sn.store_sp (.tmp 8) (.tmp 81) (w.heap.size + 1 + 1) #[.int .u64 0, .int .u64 0] #[.int .u64 0, .int .u64 0] HR2.out rfl rfl rfl rfl rfl rfl (by simp [Value.oneCell']) ?_)
          refine Sn.ret_sp (w.heap.size + 1 + 1) _ (Sn.bk_row HR2.out _) rfl rfl rfl rfl ?_
          exact ⟨by first | (rw [HRES.out]; done) | (rw [HRES.out]; rfl), Sn.below_set HB.out (by omega) _⟩
        · subst h3
          have HRES := Lib.hid ((Sn.ap_tab hne).trans HT.out)
          clear hne
          clear hp hn hk hq
          try clear h5
          have c3_0 := Sn.bk_c HR3.out 0
          have c3_1 := Sn.bk_c HR3.out 1
          have c4_0 := Sn.bk_c HR4.out 0
          have c4_1 := Sn.bk_c HR4.out 1
          simp only [List.getElem?_toArray, List.getElem?_cons_zero, List.getElem?_cons_succ] at c3_0 c3_1 c4_0 c4_1
          go_wp2_with (first | (with_reducible refine Sn.load_sp (.tmp 11) (b) #[.int .u64 p1, .int .u64 p2] HR3.out rfl rfl rfl rfl ?_) | (with_reducible refine Sn.load_sp (.tmp 12) (c) #[.int .u64 q1, .int .u64 q2] HR4.out rfl rfl rfl rfl ?_))
          clear c3_0 c3_1 c4_0 c4_1
          refine (HC.out v).mono ?_
          rintro e v2 ⟨rfl, hb⟩
          have hr2 := Sn.bk_below HR2.out hb (Sn.bk_lt HR2.out)
          have hr3 := Sn.bk_below HR3.out hb (Sn.bk_lt HR3.out)
          have hr4 := Sn.bk_below HR4.out hb (Sn.bk_lt HR4.out)
          have hB := Sn.below_next HB.out hb HB.out.size
          clear HB HR2 HR3 HR4 hb
          have HB := Lib.hid hB
          have HR2 := Lib.hid hr2
          have HR3 := Lib.hid hr3
          have HR4 := Lib.hid hr4
          clear hB hr2 hr3 hr4
          clear v
          rename World => v
          go_wp2_with (with_reducible refine Sn.store_sp (.tmp 8) (.tmp 81) (w.heap.size + 1 + 1) #[.int .u64 0, .int .u64 0] #[.int .u64 1, .int .u64 1] HR2.out rfl rfl rfl rfl rfl rfl (by simp [Value.oneCell']) ?_)
          refine Sn.ret_sp (w.heap.size + 1 + 1) _ (Sn.bk_row HR2.out _) rfl rfl rfl rfl ?_
          exact ⟨by first | (rw [HRES.out]; done) | (rw [HRES.out]; rfl), Sn.below_set HB.out (by omega) _⟩
        · subst h3
          have HRES := Lib.hid ((Sn.ap_tab hne).trans HT.out)
          clear hne
          clear hp hn hk hq
          try clear h5
          have c3_0 := Sn.bk_c HR3.out 0
          have c3_1 := Sn.bk_c HR3.out 1
          have c4_0 := Sn.bk_c HR4.out 0
          have c4_1 := Sn.bk_c HR4.out 1
          simp only [List.getElem?_toArray, List.getElem?_cons_zero, List.getElem?_cons_succ] at c3_0 c3_1 c4_0 c4_1
          go_wp2_with (first | (with_reducible refine Sn.load_sp (.tmp 11) (b) #[.int .u64 p1, .int .u64 p2] HR3.out rfl rfl rfl rfl ?_) | (with_reducible refine Sn.load_sp (.tmp 12) (c) #[.int .u64 q1, .int .u64 q2] HR4.out rfl rfl rfl rfl ?_))
          clear c3_0 c3_1 c4_0 c4_1
          refine (HC.out v).mono ?_
          rintro e v2 ⟨rfl, hb⟩
          have hr2 := Sn.bk_below HR2.out hb (Sn.bk_lt HR2.out)
          have hr3 := Sn.bk_below HR3.out hb (Sn.bk_lt HR3.out)
          have hr4 := Sn.bk_below HR4.out hb (Sn.bk_lt HR4.out)
          have hB := Sn.below_next HB.out hb HB.out.size
          clear HB HR2 HR3 HR4 hb
          have HB := Lib.hid hB
          have HR2 := Lib.hid hr2
          have HR3 := Lib.hid hr3
          have HR4 := Lib.hid hr4
          clear hB hr2 hr3 hr4
          clear v
          rename World => v
          go_wp2_with (with_reducible refine Sn.store_sp (.tmp 8) (.tmp 78) (w.heap.size + 1 + 1) #[.int .u64 0, .int .u64 0] #[.int .u64 0, .int .u64 1] HR2.out rfl rfl rfl rfl rfl rfl (by simp [Value.oneCell']) ?_)
          refine Sn.ret_sp (w.heap.size + 1 + 1) _ (Sn.bk_row HR2.out _) rfl rfl rfl rfl ?_
          exact ⟨by first | (rw [HRES.out]; done) | (rw [HRES.out]; rfl), Sn.below_set HB.out (by omega) _⟩
      clear hnp
      have o1 : decide (op < 5) = false := by simp; omega
      have o2 : decide (op > 21) = false := by simp; omega
      have o3 : (op == 6) = false := by simp; omega
      have o4 : (op == 7) = false := by simp; omega
      have o5 : (op == 5) = false := by simp; omega
      have k1 : (p1 == p2) = false := by simp; exact hp
      have hne : ¬ ((p1, p2).1 = (p1, p2).2 ∧ (q1, q2).1 = (q1, q2).2) := fun h => hp h.1
      have o19 : decide (op ≥ 19) = true := by simp; omega
      rcases H012.out with h3 | h3 | h3
      · subst h3
        have HRES := Lib.hid ((Sn.ap_tab hne).trans HT.out)
        clear hne
        clear hp hn hk
        try clear h5
        have c3_0 := Sn.bk_c HR3.out 0
        have c3_1 := Sn.bk_c HR3.out 1
        have c4_0 := Sn.bk_c HR4.out 0
        have c4_1 := Sn.bk_c HR4.out 1
        simp only [List.getElem?_toArray, List.getElem?_cons_zero, List.getElem?_cons_succ] at c3_0 c3_1 c4_0 c4_1
        go_wp2_with (first | (with_reducible refine Sn.load_sp (.tmp 11) (b) #[.int .u64 p1, .int .u64 p2] HR3.out rfl rfl rfl rfl ?_) | (with_reducible refine Sn.load_sp (.tmp 12) (c) #[.int .u64 q1, .int .u64 q2] HR4.out rfl rfl rfl rfl ?_))
        clear c3_0 c3_1 c4_0 c4_1
        refine (HC.out v).mono ?_
        rintro e v2 ⟨rfl, hb⟩
        have hr2 := Sn.bk_below HR2.out hb (Sn.bk_lt HR2.out)
        have hr3 := Sn.bk_below HR3.out hb (Sn.bk_lt HR3.out)
        have hr4 := Sn.bk_below HR4.out hb (Sn.bk_lt HR4.out)
        have hB := Sn.below_next HB.out hb HB.out.size
        clear HB HR2 HR3 HR4 hb
        have HB := Lib.hid hB
        have HR2 := Lib.hid hr2
        have HR3 := Lib.hid hr3
        have HR4 := Lib.hid hr4
        clear hB hr2 hr3 hr4
        clear v
        rename World => v
        go_wp2_with (with_reducible refine Sn.store_sp (.tmp 8) (.tmp 81) (w.heap.size + 1 + 1) #[.int .u64 0, .int .u64 0] #[.int .u64 0, .int .u64 0] HR2.out rfl rfl rfl rfl rfl rfl (by simp [Value.oneCell']) ?_)
        refine Sn.ret_sp (w.heap.size + 1 + 1) _ (Sn.bk_row HR2.out _) rfl rfl rfl rfl ?_
        exact ⟨by first | (rw [HRES.out]; done) | (rw [HRES.out]; rfl), Sn.below_set HB.out (by omega) _⟩
      · subst h3
        have HRES := Lib.hid ((Sn.ap_tab hne).trans HT.out)
        clear hne
        clear hp hn hk
        try clear h5
        have c3_0 := Sn.bk_c HR3.out 0
        have c3_1 := Sn.bk_c HR3.out 1
        have c4_0 := Sn.bk_c HR4.out 0
        have c4_1 := Sn.bk_c HR4.out 1
        simp only [List.getElem?_toArray, List.getElem?_cons_zero, List.getElem?_cons_succ] at c3_0 c3_1 c4_0 c4_1
        go_wp2_with (first | (with_reducible refine Sn.load_sp (.tmp 11) (b) #[.int .u64 p1, .int .u64 p2] HR3.out rfl rfl rfl rfl ?_) | (with_reducible refine Sn.load_sp (.tmp 12) (c) #[.int .u64 q1, .int .u64 q2] HR4.out rfl rfl rfl rfl ?_))
        clear c3_0 c3_1 c4_0 c4_1
        refine (HC.out v).mono ?_
        rintro e v2 ⟨rfl, hb⟩
        have hr2 := Sn.bk_below HR2.out hb (Sn.bk_lt HR2.out)
        have hr3 := Sn.bk_below HR3.out hb (Sn.bk_lt HR3.out)
        have hr4 := Sn.bk_below HR4.out hb (Sn.bk_lt HR4.out)
        have hB := Sn.below_next HB.out hb HB.out.size
        clear HB HR2 HR3 HR4 hb
        have HB := Lib.hid hB
        have HR2 := Lib.hid hr2
        have HR3 := Lib.hid hr3
        have HR4 := Lib.hid hr4
        clear hB hr2 hr3 hr4
        clear v
        rename World => v
        go_wp2_with (with_reducible refine Sn.store_sp (.tmp 8) (.tmp 81) (w.heap.size + 1 + 1) #[.int .u64 0, .int .u64 0] #[.int .u64 1, .int .u64 1] HR2.out rfl rfl rfl rfl rfl rfl (by simp [Value.oneCell']) ?_)
        refine Sn.ret_sp (w.heap.size + 1 + 1) _ (Sn.bk_row HR2.out _) rfl rfl rfl rfl ?_
        exact ⟨by first | (rw [HRES.out]; done) | (rw [HRES.out]; rfl), Sn.below_set HB.out (by omega) _⟩
      · subst h3
        have HRES := Lib.hid ((Sn.ap_tab hne).trans HT.out)
        clear hne
        clear hp hn hk
        try clear h5
        have c3_0 := Sn.bk_c HR3.out 0
        have c3_1 := Sn.bk_c HR3.out 1
        have c4_0 := Sn.bk_c HR4.out 0
        have c4_1 := Sn.bk_c HR4.out 1
        simp only [List.getElem?_toArray, List.getElem?_cons_zero, List.getElem?_cons_succ] at c3_0 c3_1 c4_0 c4_1
        go_wp2_with (first | (with_reducible refine Sn.load_sp (.tmp 11) (b) #[.int .u64 p1, .int .u64 p2] HR3.out rfl rfl rfl rfl ?_) | (with_reducible refine Sn.load_sp (.tmp 12) (c) #[.int .u64 q1, .int .u64 q2] HR4.out rfl rfl rfl rfl ?_))
        clear c3_0 c3_1 c4_0 c4_1
        refine (HC.out v).mono ?_
        rintro e v2 ⟨rfl, hb⟩
        have hr2 := Sn.bk_below HR2.out hb (Sn.bk_lt HR2.out)
        have hr3 := Sn.bk_below HR3.out hb (Sn.bk_lt HR3.out)
        have hr4 := Sn.bk_below HR4.out hb (Sn.bk_lt HR4.out)
        have hB := Sn.below_next HB.out hb HB.out.size
        clear HB HR2 HR3 HR4 hb
        have HB := Lib.hid hB
        have HR2 := Lib.hid hr2
        have HR3 := Lib.hid hr3
        have HR4 := Lib.hid hr4
        clear hB hr2 hr3 hr4
        clear v
        rename World => v
        go_wp2_with (with_reducible refine Sn.store_sp (.tmp 8) (.tmp 78) (w.heap.size + 1 + 1) #[.int .u64 0, .int .u64 0] #[.int .u64 0, .int .u64 1] HR2.out rfl rfl rfl rfl rfl rfl (by simp [Value.oneCell']) ?_)
        refine Sn.ret_sp (w.heap.size + 1 + 1) _ (Sn.bk_row HR2.out _) rfl rfl rfl rfl ?_
        exact ⟨by first | (rw [HRES.out]; done) | (rw [HRES.out]; rfl), Sn.below_set HB.out (by omega) _⟩
  · intro hrest
    have HREST := Lib.hid hrest
    have HU0 := Lib.hid (show Below v.heap.size v v.drew from (Below.refl _ _).drew)
    clear hrest
    generalize v.drew = u0 at *
    refine headS_ready (rs := [2, 6, 7]) (by kernel_rfl) (by simp) (by rfl) ?_
    refine AllS.cons rfl (fun K hK => ?_) (AllS.cons rfl (fun K hK => ?_) (AllS.cons rfl (fun K hK => ?_) AllS.nil))
    · go_simp
      refine (HX.out u0).mono ?_
      rintro e u1 ⟨rfl, hb⟩
      have hS := Sn.below_next HU0.out hb HU0.out.size
      refine hK.out _ _ hS (fun hHeld => ?_)
      clear hK K hb
      have HU1 := Lib.hid hS
      clear hS 
      try simp only [Act.put, List.setIfInBounds_toArray, List.set_cons_zero, List.set_cons_succ]
      refine headS_ready (rs := [5, 6, 7]) (by kernel_rfl) (by simp) (by rfl) ?_
      refine AllS.cons rfl (fun K hK => ?_) (AllS.cons rfl (fun K hK => ?_) (AllS.cons rfl (fun K hK => ?_) AllS.nil))
      · go_simp
        refine (HY.out u1).mono ?_
        rintro e u2 ⟨rfl, hb⟩
        have hS := Sn.below_next HU1.out hb HU1.out.size
        refine hK.out _ _ hS (fun hHeld => ?_)
        clear hK K hb
        have HU2 := Lib.hid hS
        clear hS 
        try simp only [Act.put, List.setIfInBounds_toArray, List.set_cons_zero, List.set_cons_succ]
        refine headS_ready (rs := [6, 7]) (by kernel_rfl) (by simp) (by rfl) ?_
        refine AllS.cons rfl (fun K hK => ?_) (AllS.cons rfl (fun K hK => ?_) AllS.nil)
        · go_simp
          have hS : Below v.heap.size v (u2.alloc (.cells #[.int .u64 0, .int .u64 0] 24)) := HU2.out.alloc HU2.out.size _
          have hka3 : Sn.Bk (u2.alloc (.cells #[.int .u64 0, .int .u64 0] 24)) u2.heap.size 24 #[.int .u64 0, .int .u64 0] := Sn.bk_new _ _ _
          have hva3 := HU2.out.size
          refine hK.out _ _ hS (fun hHeld => ?_)
          clear hK K
          obtain ⟨a3, hg⟩ : ∃ g, u2.heap.size = g := ⟨_, rfl⟩
          rw [hg] at hka3 hva3
          simp only [hg] at hHeld ⊢
          generalize u2.alloc (.cells #[.int .u64 0, .int .u64 0] 24) = u3 at *
          clear hg
          have HU3 := Lib.hid hS
          have HKa3 := Lib.hid hka3
          clear hS hka3 
          try simp only [Act.put, List.setIfInBounds_toArray, List.set_cons_zero, List.set_cons_succ]
          refine headS_ready (rs := [7]) (by kernel_rfl) (by simp) (by rfl) ?_
          refine AllS.cons rfl (fun K hK => ?_) AllS.nil
          · go_simp
            have hS : Below v.heap.size v (u3.alloc (.cells #[.int .u64 0, .int .u64 0] 24)) := HU3.out.alloc HU3.out.size _
            have hka4 : Sn.Bk (u3.alloc (.cells #[.int .u64 0, .int .u64 0] 24)) u3.heap.size 24 #[.int .u64 0, .int .u64 0] := Sn.bk_new _ _ _
            have hva4 := HU3.out.size
            have hka3 : Sn.Bk (u3.alloc (.cells #[.int .u64 0, .int .u64 0] 24)) a3 24 #[.int .u64 0, .int .u64 0] := Sn.bk_old HKa3.out _
            have hla3a4 := Sn.bk_lt HKa3.out
            refine hK.out _ _ hS (fun hHeld => ?_)
            clear hK K
            obtain ⟨a4, hg⟩ : ∃ g, u3.heap.size = g := ⟨_, rfl⟩
            rw [hg] at hka4 hva4 hla3a4
            simp only [hg] at hHeld ⊢
            generalize u3.alloc (.cells #[.int .u64 0, .int .u64 0] 24) = u4 at *
            clear hg
            have HU4 := Lib.hid hS
            have HKa4 := Lib.hid hka4
            clear HKa3
            have HKa3 := Lib.hid hka3
            clear hS hka4 hka3
            try simp only [Act.put, List.setIfInBounds_toArray, List.set_cons_zero, List.set_cons_succ]
            refine ⟨by kernel_rfl, HREST.out a3 a4 u4 ⟨HU4.out, by omega, by omega, by omega, HKa3.out, HKa4.out⟩⟩
        · go_simp
          have hS : Below v.heap.size v (u2.alloc (.cells #[.int .u64 0, .int .u64 0] 24)) := HU2.out.alloc HU2.out.size _
          have hka5 : Sn.Bk (u2.alloc (.cells #[.int .u64 0, .int .u64 0] 24)) u2.heap.size 24 #[.int .u64 0, .int .u64 0] := Sn.bk_new _ _ _
          have hva5 := HU2.out.size
          refine hK.out _ _ hS (fun hHeld => ?_)
          clear hK K
          obtain ⟨a5, hg⟩ : ∃ g, u2.heap.size = g := ⟨_, rfl⟩
          rw [hg] at hka5 hva5
          simp only [hg] at hHeld ⊢
          generalize u2.alloc (.cells #[.int .u64 0, .int .u64 0] 24) = u5 at *
          clear hg
          have HU5 := Lib.hid hS
          have HKa5 := Lib.hid hka5
          clear hS hka5 
          try simp only [Act.put, List.setIfInBounds_toArray, List.set_cons_zero, List.set_cons_succ]
          refine headS_ready (rs := [6]) (by kernel_rfl) (by simp) (by rfl) ?_
          refine AllS.cons rfl (fun K hK => ?_) AllS.nil
          · go_simp
            have hS : Below v.heap.size v (u5.alloc (.cells #[.int .u64 0, .int .u64 0] 24)) := HU5.out.alloc HU5.out.size _
            have hka6 : Sn.Bk (u5.alloc (.cells #[.int .u64 0, .int .u64 0] 24)) u5.heap.size 24 #[.int .u64 0, .int .u64 0] := Sn.bk_new _ _ _
            have hva6 := HU5.out.size
            have hka5 : Sn.Bk (u5.alloc (.cells #[.int .u64 0, .int .u64 0] 24)) a5 24 #[.int .u64 0, .int .u64 0] := Sn.bk_old HKa5.out _
            have hla5a6 := Sn.bk_lt HKa5.out
            refine hK.out _ _ hS (fun hHeld => ?_)
            clear hK K
            obtain ⟨a6, hg⟩ : ∃ g, u5.heap.size = g := ⟨_, rfl⟩
            rw [hg] at hka6 hva6 hla5a6
            simp only [hg] at hHeld ⊢
            generalize u5.alloc (.cells #[.int .u64 0, .int .u64 0] 24) = u6 at *
            clear hg
            have HU6 := Lib.hid hS
            have HKa6 := Lib.hid hka6
            clear HKa5
            have HKa5 := Lib.hid hka5
            clear hS hka6 hka5
            try simp only [Act.put, List.setIfInBounds_toArray, List.set_cons_zero, List.set_cons_succ]
            refine ⟨by kernel_rfl, HREST.out a6 a5 u6 ⟨HU6.out, by omega, by omega, by omega, HKa6.out, HKa5.out⟩⟩
      · go_simp
        have hS : Below v.heap.size v (u1.alloc (.cells #[.int .u64 0, .int .u64 0] 24)) := HU1.out.alloc HU1.out.size _
        have hka7 : Sn.Bk (u1.alloc (.cells #[.int .u64 0, .int .u64 0] 24)) u1.heap.size 24 #[.int .u64 0, .int .u64 0] := Sn.bk_new _ _ _
        have hva7 := HU1.out.size
        refine hK.out _ _ hS (fun hHeld => ?_)
        clear hK K
        obtain ⟨a7, hg⟩ : ∃ g, u1.heap.size = g := ⟨_, rfl⟩
        rw [hg] at hka7 hva7
        simp only [hg] at hHeld ⊢
        generalize u1.alloc (.cells #[.int .u64 0, .int .u64 0] 24) = u7 at *
        clear hg
        have HU7 := Lib.hid hS
        have HKa7 := Lib.hid hka7
        clear hS hka7 
        try simp only [Act.put, List.setIfInBounds_toArray, List.set_cons_zero, List.set_cons_succ]
        refine headS_ready (rs := [5, 7]) (by kernel_rfl) (by simp) (by rfl) ?_
        refine AllS.cons rfl (fun K hK => ?_) (AllS.cons rfl (fun K hK => ?_) AllS.nil)
        · go_simp
          refine (HY.out u7).mono ?_
          rintro e u8 ⟨rfl, hb⟩
          have hS := Sn.below_next HU7.out hb HU7.out.size
          have hka7 := Sn.bk_below HKa7.out hb (Sn.bk_lt HKa7.out)
          refine hK.out _ _ hS (fun hHeld => ?_)
          clear hK K hb
          have HU8 := Lib.hid hS
          clear HKa7
          have HKa7 := Lib.hid hka7
          clear hS hka7
          try simp only [Act.put, List.setIfInBounds_toArray, List.set_cons_zero, List.set_cons_succ]
          refine headS_ready (rs := [7]) (by kernel_rfl) (by simp) (by rfl) ?_
          refine AllS.cons rfl (fun K hK => ?_) AllS.nil
          · go_simp
            have hS : Below v.heap.size v (u8.alloc (.cells #[.int .u64 0, .int .u64 0] 24)) := HU8.out.alloc HU8.out.size _
            have hka9 : Sn.Bk (u8.alloc (.cells #[.int .u64 0, .int .u64 0] 24)) u8.heap.size 24 #[.int .u64 0, .int .u64 0] := Sn.bk_new _ _ _
            have hva9 := HU8.out.size
            have hka7 : Sn.Bk (u8.alloc (.cells #[.int .u64 0, .int .u64 0] 24)) a7 24 #[.int .u64 0, .int .u64 0] := Sn.bk_old HKa7.out _
            have hla7a9 := Sn.bk_lt HKa7.out
            refine hK.out _ _ hS (fun hHeld => ?_)
            clear hK K
            obtain ⟨a9, hg⟩ : ∃ g, u8.heap.size = g := ⟨_, rfl⟩
            rw [hg] at hka9 hva9 hla7a9
            simp only [hg] at hHeld ⊢
            generalize u8.alloc (.cells #[.int .u64 0, .int .u64 0] 24) = u9 at *
            clear hg
            have HU9 := Lib.hid hS
            have HKa9 := Lib.hid hka9
            clear HKa7
            have HKa7 := Lib.hid hka7
            clear hS hka9 hka7
            try simp only [Act.put, List.setIfInBounds_toArray, List.set_cons_zero, List.set_cons_succ]
            refine ⟨by kernel_rfl, HREST.out a7 a9 u9 ⟨HU9.out, by omega, by omega, by omega, HKa7.out, HKa9.out⟩⟩
        · go_simp
          have hS : Below v.heap.size v (u7.alloc (.cells #[.int .u64 0, .int .u64 0] 24)) := HU7.out.alloc HU7.out.size _
          have hka10 : Sn.Bk (u7.alloc (.cells #[.int .u64 0, .int .u64 0] 24)) u7.heap.size 24 #[.int .u64 0, .int .u64 0] := Sn.bk_new _ _ _
          have hva10 := HU7.out.size
          have hka7 : Sn.Bk (u7.alloc (.cells #[.int .u64 0, .int .u64 0] 24)) a7 24 #[.int .u64 0, .int .u64 0] := Sn.bk_old HKa7.out _
          have hla7a10 := Sn.bk_lt HKa7.out
          refine hK.out _ _ hS (fun hHeld => ?_)
          clear hK K
          obtain ⟨a10, hg⟩ : ∃ g, u7.heap.size = g := ⟨_, rfl⟩
          rw [hg] at hka10 hva10 hla7a10
          simp only [hg] at hHeld ⊢
          generalize u7.alloc (.cells #[.int .u64 0, .int .u64 0] 24) = u10 at *
          clear hg
          have HU10 := Lib.hid hS
          have HKa10 := Lib.hid hka10
          clear HKa7
          have HKa7 := Lib.hid hka7
          clear hS hka10 hka7
          try simp only [Act.put, List.setIfInBounds_toArray, List.set_cons_zero, List.set_cons_succ]
          refine headS_ready (rs := [5]) (by kernel_rfl) (by simp) (by rfl) ?_
          refine AllS.cons rfl (fun K hK => ?_) AllS.nil
          · go_simp
            refine (HY.out u10).mono ?_
            rintro e u11 ⟨rfl, hb⟩
            have hS := Sn.below_next HU10.out hb HU10.out.size
            have hka7 := Sn.bk_below HKa7.out hb (Sn.bk_lt HKa7.out)
            have hka10 := Sn.bk_below HKa10.out hb (Sn.bk_lt HKa10.out)
            refine hK.out _ _ hS (fun hHeld => ?_)
            clear hK K hb
            have HU11 := Lib.hid hS
            clear HKa7 HKa10
            have HKa7 := Lib.hid hka7
            have HKa10 := Lib.hid hka10
            clear hS hka7 hka10
            try simp only [Act.put, List.setIfInBounds_toArray, List.set_cons_zero, List.set_cons_succ]
            refine ⟨by kernel_rfl, HREST.out a7 a10 u11 ⟨HU11.out, by omega, by omega, by omega, HKa7.out, HKa10.out⟩⟩
      · go_simp
        have hS : Below v.heap.size v (u1.alloc (.cells #[.int .u64 0, .int .u64 0] 24)) := HU1.out.alloc HU1.out.size _
        have hka12 : Sn.Bk (u1.alloc (.cells #[.int .u64 0, .int .u64 0] 24)) u1.heap.size 24 #[.int .u64 0, .int .u64 0] := Sn.bk_new _ _ _
        have hva12 := HU1.out.size
        refine hK.out _ _ hS (fun hHeld => ?_)
        clear hK K
        obtain ⟨a12, hg⟩ : ∃ g, u1.heap.size = g := ⟨_, rfl⟩
        rw [hg] at hka12 hva12
        simp only [hg] at hHeld ⊢
        generalize u1.alloc (.cells #[.int .u64 0, .int .u64 0] 24) = u12 at *
        clear hg
        have HU12 := Lib.hid hS
        have HKa12 := Lib.hid hka12
        clear hS hka12 
        try simp only [Act.put, List.setIfInBounds_toArray, List.set_cons_zero, List.set_cons_succ]
        refine headS_ready (rs := [5, 6]) (by kernel_rfl) (by simp) (by rfl) ?_
        refine AllS.cons rfl (fun K hK => ?_) (AllS.cons rfl (fun K hK => ?_) AllS.nil)
        · go_simp
          refine (HY.out u12).mono ?_
          rintro e u13 ⟨rfl, hb⟩
          have hS := Sn.below_next HU12.out hb HU12.out.size
          have hka12 := Sn.bk_below HKa12.out hb (Sn.bk_lt HKa12.out)
          refine hK.out _ _ hS (fun hHeld => ?_)
          clear hK K hb
          have HU13 := Lib.hid hS
          clear HKa12
          have HKa12 := Lib.hid hka12
          clear hS hka12
          try simp only [Act.put, List.setIfInBounds_toArray, List.set_cons_zero, List.set_cons_succ]
          refine headS_ready (rs := [6]) (by kernel_rfl) (by simp) (by rfl) ?_
          refine AllS.cons rfl (fun K hK => ?_) AllS.nil
          · go_simp
            have hS : Below v.heap.size v (u13.alloc (.cells #[.int .u64 0, .int .u64 0] 24)) := HU13.out.alloc HU13.out.size _
            have hka14 : Sn.Bk (u13.alloc (.cells #[.int .u64 0, .int .u64 0] 24)) u13.heap.size 24 #[.int .u64 0, .int .u64 0] := Sn.bk_new _ _ _
            have hva14 := HU13.out.size
            have hka12 : Sn.Bk (u13.alloc (.cells #[.int .u64 0, .int .u64 0] 24)) a12 24 #[.int .u64 0, .int .u64 0] := Sn.bk_old HKa12.out _
            have hla12a14 := Sn.bk_lt HKa12.out
            refine hK.out _ _ hS (fun hHeld => ?_)
            clear hK K
            obtain ⟨a14, hg⟩ : ∃ g, u13.heap.size = g := ⟨_, rfl⟩
            rw [hg] at hka14 hva14 hla12a14
            simp only [hg] at hHeld ⊢
            generalize u13.alloc (.cells #[.int .u64 0, .int .u64 0] 24) = u14 at *
            clear hg
            have HU14 := Lib.hid hS
            have HKa14 := Lib.hid hka14
            clear HKa12
            have HKa12 := Lib.hid hka12
            clear hS hka14 hka12
            try simp only [Act.put, List.setIfInBounds_toArray, List.set_cons_zero, List.set_cons_succ]
            refine ⟨by kernel_rfl, HREST.out a14 a12 u14 ⟨HU14.out, by omega, by omega, by omega, HKa14.out, HKa12.out⟩⟩
        · go_simp
          have hS : Below v.heap.size v (u12.alloc (.cells #[.int .u64 0, .int .u64 0] 24)) := HU12.out.alloc HU12.out.size _
          have hka15 : Sn.Bk (u12.alloc (.cells #[.int .u64 0, .int .u64 0] 24)) u12.heap.size 24 #[.int .u64 0, .int .u64 0] := Sn.bk_new _ _ _
          have hva15 := HU12.out.size
          have hka12 : Sn.Bk (u12.alloc (.cells #[.int .u64 0, .int .u64 0] 24)) a12 24 #[.int .u64 0, .int .u64 0] := Sn.bk_old HKa12.out _
          have hla12a15 := Sn.bk_lt HKa12.out
          refine hK.out _ _ hS (fun hHeld => ?_)
          clear hK K
          obtain ⟨a15, hg⟩ : ∃ g, u12.heap.size = g := ⟨_, rfl⟩
          rw [hg] at hka15 hva15 hla12a15
          simp only [hg] at hHeld ⊢
          generalize u12.alloc (.cells #[.int .u64 0, .int .u64 0] 24) = u15 at *
          clear hg
          have HU15 := Lib.hid hS
          have HKa15 := Lib.hid hka15
          clear HKa12
          have HKa12 := Lib.hid hka12
          clear hS hka15 hka12
          try simp only [Act.put, List.setIfInBounds_toArray, List.set_cons_zero, List.set_cons_succ]
          refine headS_ready (rs := [5]) (by kernel_rfl) (by simp) (by rfl) ?_
          refine AllS.cons rfl (fun K hK => ?_) AllS.nil
          · go_simp
            refine (HY.out u15).mono ?_
            rintro e u16 ⟨rfl, hb⟩
            have hS := Sn.below_next HU15.out hb HU15.out.size
            have hka12 := Sn.bk_below HKa12.out hb (Sn.bk_lt HKa12.out)
            have hka15 := Sn.bk_below HKa15.out hb (Sn.bk_lt HKa15.out)
            refine hK.out _ _ hS (fun hHeld => ?_)
            clear hK K hb
            have HU16 := Lib.hid hS
            clear HKa12 HKa15
            have HKa12 := Lib.hid hka12
            have HKa15 := Lib.hid hka15
            clear hS hka12 hka15
            try simp only [Act.put, List.setIfInBounds_toArray, List.set_cons_zero, List.set_cons_succ]
            refine ⟨by kernel_rfl, HREST.out a15 a12 u16 ⟨HU16.out, by omega, by omega, by omega, HKa15.out, HKa12.out⟩⟩
    · go_simp
      have hS : Below v.heap.size v (u0.alloc (.cells #[.int .u64 0, .int .u64 0] 24)) := HU0.out.alloc HU0.out.size _
      have hka17 : Sn.Bk (u0.alloc (.cells #[.int .u64 0, .int .u64 0] 24)) u0.heap.size 24 #[.int .u64 0, .int .u64 0] := Sn.bk_new _ _ _
      have hva17 := HU0.out.size
      refine hK.out _ _ hS (fun hHeld => ?_)
      clear hK K
      obtain ⟨a17, hg⟩ : ∃ g, u0.heap.size = g := ⟨_, rfl⟩
      rw [hg] at hka17 hva17
      simp only [hg] at hHeld ⊢
      generalize u0.alloc (.cells #[.int .u64 0, .int .u64 0] 24) = u17 at *
      clear hg
      have HU17 := Lib.hid hS
      have HKa17 := Lib.hid hka17
      clear hS hka17 
      try simp only [Act.put, List.setIfInBounds_toArray, List.set_cons_zero, List.set_cons_succ]
      refine headS_ready (rs := [2, 7]) (by kernel_rfl) (by simp) (by rfl) ?_
      refine AllS.cons rfl (fun K hK => ?_) (AllS.cons rfl (fun K hK => ?_) AllS.nil)
      · go_simp
        refine (HX.out u17).mono ?_
        rintro e u18 ⟨rfl, hb⟩
        have hS := Sn.below_next HU17.out hb HU17.out.size
        have hka17 := Sn.bk_below HKa17.out hb (Sn.bk_lt HKa17.out)
        refine hK.out _ _ hS (fun hHeld => ?_)
        clear hK K hb
        have HU18 := Lib.hid hS
        clear HKa17
        have HKa17 := Lib.hid hka17
        clear hS hka17
        try simp only [Act.put, List.setIfInBounds_toArray, List.set_cons_zero, List.set_cons_succ]
        refine headS_ready (rs := [5, 7]) (by kernel_rfl) (by simp) (by rfl) ?_
        refine AllS.cons rfl (fun K hK => ?_) (AllS.cons rfl (fun K hK => ?_) AllS.nil)
        · go_simp
          refine (HY.out u18).mono ?_
          rintro e u19 ⟨rfl, hb⟩
          have hS := Sn.below_next HU18.out hb HU18.out.size
          have hka17 := Sn.bk_below HKa17.out hb (Sn.bk_lt HKa17.out)
          refine hK.out _ _ hS (fun hHeld => ?_)
          clear hK K hb
          have HU19 := Lib.hid hS
          clear HKa17
          have HKa17 := Lib.hid hka17
          clear hS hka17
          try simp only [Act.put, List.setIfInBounds_toArray, List.set_cons_zero, List.set_cons_succ]
          refine headS_ready (rs := [7]) (by kernel_rfl) (by simp) (by rfl) ?_
          refine AllS.cons rfl (fun K hK => ?_) AllS.nil
          · go_simp
            have hS : Below v.heap.size v (u19.alloc (.cells #[.int .u64 0, .int .u64 0] 24)) := HU19.out.alloc HU19.out.size _
            have hka20 : Sn.Bk (u19.alloc (.cells #[.int .u64 0, .int .u64 0] 24)) u19.heap.size 24 #[.int .u64 0, .int .u64 0] := Sn.bk_new _ _ _
            have hva20 := HU19.out.size
            have hka17 : Sn.Bk (u19.alloc (.cells #[.int .u64 0, .int .u64 0] 24)) a17 24 #[.int .u64 0, .int .u64 0] := Sn.bk_old HKa17.out _
            have hla17a20 := Sn.bk_lt HKa17.out
            refine hK.out _ _ hS (fun hHeld => ?_)
            clear hK K
            obtain ⟨a20, hg⟩ : ∃ g, u19.heap.size = g := ⟨_, rfl⟩
            rw [hg] at hka20 hva20 hla17a20
            simp only [hg] at hHeld ⊢
            generalize u19.alloc (.cells #[.int .u64 0, .int .u64 0] 24) = u20 at *
            clear hg
            have HU20 := Lib.hid hS
            have HKa20 := Lib.hid hka20
            clear HKa17
            have HKa17 := Lib.hid hka17
            clear hS hka20 hka17
            try simp only [Act.put, List.setIfInBounds_toArray, List.set_cons_zero, List.set_cons_succ]
            refine ⟨by kernel_rfl, HREST.out a17 a20 u20 ⟨HU20.out, by omega, by omega, by omega, HKa17.out, HKa20.out⟩⟩
        · go_simp
          have hS : Below v.heap.size v (u18.alloc (.cells #[.int .u64 0, .int .u64 0] 24)) := HU18.out.alloc HU18.out.size _
          have hka21 : Sn.Bk (u18.alloc (.cells #[.int .u64 0, .int .u64 0] 24)) u18.heap.size 24 #[.int .u64 0, .int .u64 0] := Sn.bk_new _ _ _
          have hva21 := HU18.out.size
          have hka17 : Sn.Bk (u18.alloc (.cells #[.int .u64 0, .int .u64 0] 24)) a17 24 #[.int .u64 0, .int .u64 0] := Sn.bk_old HKa17.out _
          have hla17a21 := Sn.bk_lt HKa17.out
          refine hK.out _ _ hS (fun hHeld => ?_)
          clear hK K
          obtain ⟨a21, hg⟩ : ∃ g, u18.heap.size = g := ⟨_, rfl⟩
          rw [hg] at hka21 hva21 hla17a21
          simp only [hg] at hHeld ⊢
          generalize u18.alloc (.cells #[.int .u64 0, .int .u64 0] 24) = u21 at *
          clear hg
          have HU21 := Lib.hid hS
          have HKa21 := Lib.hid hka21
          clear HKa17
          have HKa17 := Lib.hid hka17
          clear hS hka21 hka17
          try simp only [Act.put, List.setIfInBounds_toArray, List.set_cons_zero, List.set_cons_succ]
          refine headS_ready (rs := [5]) (by kernel_rfl) (by simp) (by rfl) ?_
          refine AllS.cons rfl (fun K hK => ?_) AllS.nil
          · go_simp
            refine (HY.out u21).mono ?_
            rintro e u22 ⟨rfl, hb⟩
            have hS := Sn.below_next HU21.out hb HU21.out.size
            have hka17 := Sn.bk_below HKa17.out hb (Sn.bk_lt HKa17.out)
            have hka21 := Sn.bk_below HKa21.out hb (Sn.bk_lt HKa21.out)
            refine hK.out _ _ hS (fun hHeld => ?_)
            clear hK K hb
            have HU22 := Lib.hid hS
            clear HKa17 HKa21
            have HKa17 := Lib.hid hka17
            have HKa21 := Lib.hid hka21
            clear hS hka17 hka21
            try simp only [Act.put, List.setIfInBounds_toArray, List.set_cons_zero, List.set_cons_succ]
            refine ⟨by kernel_rfl, HREST.out a17 a21 u22 ⟨HU22.out, by omega, by omega, by omega, HKa17.out, HKa21.out⟩⟩
      · go_simp
        have hS : Below v.heap.size v (u17.alloc (.cells #[.int .u64 0, .int .u64 0] 24)) := HU17.out.alloc HU17.out.size _
        have hka23 : Sn.Bk (u17.alloc (.cells #[.int .u64 0, .int .u64 0] 24)) u17.heap.size 24 #[.int .u64 0, .int .u64 0] := Sn.bk_new _ _ _
        have hva23 := HU17.out.size
        have hka17 : Sn.Bk (u17.alloc (.cells #[.int .u64 0, .int .u64 0] 24)) a17 24 #[.int .u64 0, .int .u64 0] := Sn.bk_old HKa17.out _
        have hla17a23 := Sn.bk_lt HKa17.out
        refine hK.out _ _ hS (fun hHeld => ?_)
        clear hK K
        obtain ⟨a23, hg⟩ : ∃ g, u17.heap.size = g := ⟨_, rfl⟩
        rw [hg] at hka23 hva23 hla17a23
        simp only [hg] at hHeld ⊢
        generalize u17.alloc (.cells #[.int .u64 0, .int .u64 0] 24) = u23 at *
        clear hg
        have HU23 := Lib.hid hS
        have HKa23 := Lib.hid hka23
        clear HKa17
        have HKa17 := Lib.hid hka17
        clear hS hka23 hka17
        try simp only [Act.put, List.setIfInBounds_toArray, List.set_cons_zero, List.set_cons_succ]
        refine headS_ready (rs := [2]) (by kernel_rfl) (by simp) (by rfl) ?_
        refine AllS.cons rfl (fun K hK => ?_) AllS.nil
        · go_simp
          refine (HX.out u23).mono ?_
          rintro e u24 ⟨rfl, hb⟩
          have hS := Sn.below_next HU23.out hb HU23.out.size
          have hka17 := Sn.bk_below HKa17.out hb (Sn.bk_lt HKa17.out)
          have hka23 := Sn.bk_below HKa23.out hb (Sn.bk_lt HKa23.out)
          refine hK.out _ _ hS (fun hHeld => ?_)
          clear hK K hb
          have HU24 := Lib.hid hS
          clear HKa17 HKa23
          have HKa17 := Lib.hid hka17
          have HKa23 := Lib.hid hka23
          clear hS hka17 hka23
          try simp only [Act.put, List.setIfInBounds_toArray, List.set_cons_zero, List.set_cons_succ]
          refine headS_ready (rs := [5]) (by kernel_rfl) (by simp) (by rfl) ?_
          refine AllS.cons rfl (fun K hK => ?_) AllS.nil
          · go_simp
            refine (HY.out u24).mono ?_
            rintro e u25 ⟨rfl, hb⟩
            have hS := Sn.below_next HU24.out hb HU24.out.size
            have hka17 := Sn.bk_below HKa17.out hb (Sn.bk_lt HKa17.out)
            have hka23 := Sn.bk_below HKa23.out hb (Sn.bk_lt HKa23.out)
            refine hK.out _ _ hS (fun hHeld => ?_)
            clear hK K hb
            have HU25 := Lib.hid hS
            clear HKa17 HKa23
            have HKa17 := Lib.hid hka17
            have HKa23 := Lib.hid hka23
            clear hS hka17 hka23
            try simp only [Act.put, List.setIfInBounds_toArray, List.set_cons_zero, List.set_cons_succ]
            refine ⟨by kernel_rfl, HREST.out a17 a23 u25 ⟨HU25.out, by omega, by omega, by omega, HKa17.out, HKa23.out⟩⟩
    · go_simp
      have hS : Below v.heap.size v (u0.alloc (.cells #[.int .u64 0, .int .u64 0] 24)) := HU0.out.alloc HU0.out.size _
      have hka26 : Sn.Bk (u0.alloc (.cells #[.int .u64 0, .int .u64 0] 24)) u0.heap.size 24 #[.int .u64 0, .int .u64 0] := Sn.bk_new _ _ _
      have hva26 := HU0.out.size
      refine hK.out _ _ hS (fun hHeld => ?_)
      clear hK K
      obtain ⟨a26, hg⟩ : ∃ g, u0.heap.size = g := ⟨_, rfl⟩
      rw [hg] at hka26 hva26
      simp only [hg] at hHeld ⊢
      generalize u0.alloc (.cells #[.int .u64 0, .int .u64 0] 24) = u26 at *
      clear hg
      have HU26 := Lib.hid hS
      have HKa26 := Lib.hid hka26
      clear hS hka26 
      try simp only [Act.put, List.setIfInBounds_toArray, List.set_cons_zero, List.set_cons_succ]
      refine headS_ready (rs := [2, 6]) (by kernel_rfl) (by simp) (by rfl) ?_
      refine AllS.cons rfl (fun K hK => ?_) (AllS.cons rfl (fun K hK => ?_) AllS.nil)
      · go_simp
        refine (HX.out u26).mono ?_
        rintro e u27 ⟨rfl, hb⟩
        have hS := Sn.below_next HU26.out hb HU26.out.size
        have hka26 := Sn.bk_below HKa26.out hb (Sn.bk_lt HKa26.out)
        refine hK.out _ _ hS (fun hHeld => ?_)
        clear hK K hb
        have HU27 := Lib.hid hS
        clear HKa26
        have HKa26 := Lib.hid hka26
        clear hS hka26
        try simp only [Act.put, List.setIfInBounds_toArray, List.set_cons_zero, List.set_cons_succ]
        refine headS_ready (rs := [5, 6]) (by kernel_rfl) (by simp) (by rfl) ?_
        refine AllS.cons rfl (fun K hK => ?_) (AllS.cons rfl (fun K hK => ?_) AllS.nil)
        · go_simp
          refine (HY.out u27).mono ?_
          rintro e u28 ⟨rfl, hb⟩
          have hS := Sn.below_next HU27.out hb HU27.out.size
          have hka26 := Sn.bk_below HKa26.out hb (Sn.bk_lt HKa26.out)
          refine hK.out _ _ hS (fun hHeld => ?_)
          clear hK K hb
          have HU28 := Lib.hid hS
          clear HKa26
          have HKa26 := Lib.hid hka26
          clear hS hka26
          try simp only [Act.put, List.setIfInBounds_toArray, List.set_cons_zero, List.set_cons_succ]
          refine headS_ready (rs := [6]) (by kernel_rfl) (by simp) (by rfl) ?_
          refine AllS.cons rfl (fun K hK => ?_) AllS.nil
          · go_simp
            have hS : Below v.heap.size v (u28.alloc (.cells #[.int .u64 0, .int .u64 0] 24)) := HU28.out.alloc HU28.out.size _
            have hka29 : Sn.Bk (u28.alloc (.cells #[.int .u64 0, .int .u64 0] 24)) u28.heap.size 24 #[.int .u64 0, .int .u64 0] := Sn.bk_new _ _ _
            have hva29 := HU28.out.size
            have hka26 : Sn.Bk (u28.alloc (.cells #[.int .u64 0, .int .u64 0] 24)) a26 24 #[.int .u64 0, .int .u64 0] := Sn.bk_old HKa26.out _
            have hla26a29 := Sn.bk_lt HKa26.out
            refine hK.out _ _ hS (fun hHeld => ?_)
            clear hK K
            obtain ⟨a29, hg⟩ : ∃ g, u28.heap.size = g := ⟨_, rfl⟩
            rw [hg] at hka29 hva29 hla26a29
            simp only [hg] at hHeld ⊢
            generalize u28.alloc (.cells #[.int .u64 0, .int .u64 0] 24) = u29 at *
            clear hg
            have HU29 := Lib.hid hS
            have HKa29 := Lib.hid hka29
            clear HKa26
            have HKa26 := Lib.hid hka26
            clear hS hka29 hka26
            try simp only [Act.put, List.setIfInBounds_toArray, List.set_cons_zero, List.set_cons_succ]
            refine ⟨by kernel_rfl, HREST.out a29 a26 u29 ⟨HU29.out, by omega, by omega, by omega, HKa29.out, HKa26.out⟩⟩
        · go_simp
          have hS : Below v.heap.size v (u27.alloc (.cells #[.int .u64 0, .int .u64 0] 24)) := HU27.out.alloc HU27.out.size _
          have hka30 : Sn.Bk (u27.alloc (.cells #[.int .u64 0, .int .u64 0] 24)) u27.heap.size 24 #[.int .u64 0, .int .u64 0] := Sn.bk_new _ _ _
          have hva30 := HU27.out.size
          have hka26 : Sn.Bk (u27.alloc (.cells #[.int .u64 0, .int .u64 0] 24)) a26 24 #[.int .u64 0, .int .u64 0] := Sn.bk_old HKa26.out _
          have hla26a30 := Sn.bk_lt HKa26.out
          refine hK.out _ _ hS (fun hHeld => ?_)
          clear hK K
          obtain ⟨a30, hg⟩ : ∃ g, u27.heap.size = g := ⟨_, rfl⟩
          rw [hg] at hka30 hva30 hla26a30
          simp only [hg] at hHeld ⊢
          generalize u27.alloc (.cells #[.int .u64 0, .int .u64 0] 24) = u30 at *
          clear hg
          have HU30 := Lib.hid hS
          have HKa30 := Lib.hid hka30
          clear HKa26
          have HKa26 := Lib.hid hka26
          clear hS hka30 hka26
          try simp only [Act.put, List.setIfInBounds_toArray, List.set_cons_zero, List.set_cons_succ]
          refine headS_ready (rs := [5]) (by kernel_rfl) (by simp) (by rfl) ?_
          refine AllS.cons rfl (fun K hK => ?_) AllS.nil
          · go_simp
            refine (HY.out u30).mono ?_
            rintro e u31 ⟨rfl, hb⟩
            have hS := Sn.below_next HU30.out hb HU30.out.size
            have hka26 := Sn.bk_below HKa26.out hb (Sn.bk_lt HKa26.out)
            have hka30 := Sn.bk_below HKa30.out hb (Sn.bk_lt HKa30.out)
            refine hK.out _ _ hS (fun hHeld => ?_)
            clear hK K hb
            have HU31 := Lib.hid hS
            clear HKa26 HKa30
            have HKa26 := Lib.hid hka26
            have HKa30 := Lib.hid hka30
            clear hS hka26 hka30
            try simp only [Act.put, List.setIfInBounds_toArray, List.set_cons_zero, List.set_cons_succ]
            refine ⟨by kernel_rfl, HREST.out a30 a26 u31 ⟨HU31.out, by omega, by omega, by omega, HKa30.out, HKa26.out⟩⟩
      · go_simp
        have hS : Below v.heap.size v (u26.alloc (.cells #[.int .u64 0, .int .u64 0] 24)) := HU26.out.alloc HU26.out.size _
        have hka32 : Sn.Bk (u26.alloc (.cells #[.int .u64 0, .int .u64 0] 24)) u26.heap.size 24 #[.int .u64 0, .int .u64 0] := Sn.bk_new _ _ _
        have hva32 := HU26.out.size
        have hka26 : Sn.Bk (u26.alloc (.cells #[.int .u64 0, .int .u64 0] 24)) a26 24 #[.int .u64 0, .int .u64 0] := Sn.bk_old HKa26.out _
        have hla26a32 := Sn.bk_lt HKa26.out
        refine hK.out _ _ hS (fun hHeld => ?_)
        clear hK K
        obtain ⟨a32, hg⟩ : ∃ g, u26.heap.size = g := ⟨_, rfl⟩
        rw [hg] at hka32 hva32 hla26a32
        simp only [hg] at hHeld ⊢
        generalize u26.alloc (.cells #[.int .u64 0, .int .u64 0] 24) = u32 at *
        clear hg
        have HU32 := Lib.hid hS
        have HKa32 := Lib.hid hka32
        clear HKa26
        have HKa26 := Lib.hid hka26
        clear hS hka32 hka26
        try simp only [Act.put, List.setIfInBounds_toArray, List.set_cons_zero, List.set_cons_succ]
        refine headS_ready (rs := [2]) (by kernel_rfl) (by simp) (by rfl) ?_
        refine AllS.cons rfl (fun K hK => ?_) AllS.nil
        · go_simp
          refine (HX.out u32).mono ?_
          rintro e u33 ⟨rfl, hb⟩
          have hS := Sn.below_next HU32.out hb HU32.out.size
          have hka26 := Sn.bk_below HKa26.out hb (Sn.bk_lt HKa26.out)
          have hka32 := Sn.bk_below HKa32.out hb (Sn.bk_lt HKa32.out)
          refine hK.out _ _ hS (fun hHeld => ?_)
          clear hK K hb
          have HU33 := Lib.hid hS
          clear HKa26 HKa32
          have HKa26 := Lib.hid hka26
          have HKa32 := Lib.hid hka32
          clear hS hka26 hka32
          try simp only [Act.put, List.setIfInBounds_toArray, List.set_cons_zero, List.set_cons_succ]
          refine headS_ready (rs := [5]) (by kernel_rfl) (by simp) (by rfl) ?_
          refine AllS.cons rfl (fun K hK => ?_) AllS.nil
          · go_simp
            refine (HY.out u33).mono ?_
            rintro e u34 ⟨rfl, hb⟩
            have hS := Sn.below_next HU33.out hb HU33.out.size
            have hka26 := Sn.bk_below HKa26.out hb (Sn.bk_lt HKa26.out)
            have hka32 := Sn.bk_below HKa32.out hb (Sn.bk_lt HKa32.out)
            refine hK.out _ _ hS (fun hHeld => ?_)
            clear hK K hb
            have HU34 := Lib.hid hS
            clear HKa26 HKa32
            have HKa26 := Lib.hid hka26
            have HKa32 := Lib.hid hka32
            clear hS hka26 hka32
            try simp only [Act.put, List.setIfInBounds_toArray, List.set_cons_zero, List.set_cons_succ]
            refine ⟨by kernel_rfl, HREST.out a32 a26 u34 ⟨HU34.out, by omega, by omega, by omega, HKa32.out, HKa26.out⟩⟩

end Go.Proofs.Ytbjckcjfambpoaa
