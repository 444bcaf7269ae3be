/-
  Layer 11: the reference's Meet, Join.
-/
import Derived.Test.YtbjckcjfambpoaaSnGA
set_option linter.unusedSimpArgs false
set_option linter.unusedVariables false
namespace Go.Proofs.Ytbjckcjfambpoaa
set_option linter.unusedSimpArgs false
set_option linter.unusedVariables false
open Go.RowKit Go.Maps
set_option maxRecDepth 100000

set_option maxHeartbeats 12800000 in
theorem rmeet_any (a : Int) (x y : Sn.S) (w : World) :
    Calls Try.prog 16 #[.int .i64 a, Sn.v x, Sn.v y] w fun e w' => e = .returned (.tuple #[Sn.v (Sn.meet a x y).1, .bool (Sn.meet a x y).2]) ∧ Below w.heap.size w w' := by
  unfold Sn.meet
  obtain ⟨x1, x2⟩ := x
  obtain ⟨y1, y2⟩ := y
  have HX := Lib.hid (fun W => rright_any a (x1, x2) W)
  have HY := Lib.hid (fun W => rright_any a (y1, y2) W)
  generalize Sn.rt a (x1, x2) = rx at *
  generalize Sn.rt a (y1, y2) = ry at *
  obtain ⟨p1, p2⟩ := rx
  obtain ⟨q1, q2⟩ := ry
  dsimp only at *
  obtain ⟨lo, hlo⟩ : ∃ t, max p1 q1 = t := ⟨_, rfl⟩
  obtain ⟨hi, hhi⟩ : ∃ t, min p2 q2 = t := ⟨_, rfl⟩
  have hl := fun W => rgreat_any p1 q1 W
  have hh := fun W => rsmall_any p2 q2 W
  simp only [hlo] at hl
  simp only [hhi] at hh
  have HLO := Lib.hid hl
  have HHI := Lib.hid hh
  rw [hlo, hhi]
  clear hl hh hlo hhi
  show Calls Try.prog 16 #[.int .i64 a, .agg #[.int .u64 x1, .int .u64 x2], .agg #[.int .u64 y1, .int .u64 y2]] w _
  by_cases hc : hi < lo
  · rw [if_pos hc]
    have hd : decide (lo > hi) = true := by simpa using hc
    clear hc
    go_enter Try.func16, Try.ntmps16
    go_upto_region 1 with (fail)
    have hB : Below w.heap.size w (((w.alloc (.cells #[.int .u64 x1, .int .u64 x2] 24)).alloc (.cells #[.int .u64 y1, .int .u64 y2] 24)).alloc (.cells #[.int .u64 0, .int .u64 0] 24)) := ((((Below.refl _ _).alloc (Nat.le_refl _) _).alloc (by simp) _).alloc (by simp; omega) _)
    have hr0 : Sn.Bk (((w.alloc (.cells #[.int .u64 x1, .int .u64 x2] 24)).alloc (.cells #[.int .u64 y1, .int .u64 y2] 24)).alloc (.cells #[.int .u64 0, .int .u64 0] 24)) (w.heap.size) 24 #[.int .u64 x1, .int .u64 x2] := Sn.bk_old (Sn.bk_old (Sn.bk_new _ _ _) _) _
    have hr1 : Sn.Bk (((w.alloc (.cells #[.int .u64 x1, .int .u64 x2] 24)).alloc (.cells #[.int .u64 y1, .int .u64 y2] 24)).alloc (.cells #[.int .u64 0, .int .u64 0] 24)) (w.heap.size + 1) 24 #[.int .u64 y1, .int .u64 y2] := Sn.bk_old (Sn.bk_at (by simp)) _
    have hr2 : Sn.Bk (((w.alloc (.cells #[.int .u64 x1, .int .u64 x2] 24)).alloc (.cells #[.int .u64 y1, .int .u64 y2] 24)).alloc (.cells #[.int .u64 0, .int .u64 0] 24)) (w.heap.size + 1 + 1) 24 #[.int .u64 0, .int .u64 0] := Sn.bk_at (by simp)
    generalize (((w.alloc (.cells #[.int .u64 x1, .int .u64 x2] 24)).alloc (.cells #[.int .u64 y1, .int .u64 y2] 24)).alloc (.cells #[.int .u64 0, .int .u64 0] 24)) = v at *
    have HB := Lib.hid hB
    have HR0 := Lib.hid hr0
    have HR1 := Lib.hid hr1
    have HR2 := Lib.hid hr2
    clear hB hr0 hr1 hr2
    refine held_tail (S := fun W => Below v.heap.size v W) 8 (by kernel_rfl) (by simp) (Below.refl _ _).drew (fun hHeld => ?_)
    refine headS_take (i := 0) (v := .int .i64 a) rfl (by kernel_rfl) (fun _ _ _ h => h) (Or.inl ⟨by rfl, fun W hW => ?_⟩) hHeld ?_
    · (try dsimp only at hW)
      go_simp
    try simp only [Act.put, List.setIfInBounds_toArray, List.set_cons_zero, List.set_cons_succ]
    refine headS_take (i := 1) (v := .agg #[.int .u64 x1, .int .u64 x2]) rfl (by kernel_rfl) (fun _ _ _ h => h) (Or.inl ⟨by rfl, fun W hW => ?_⟩) hHeld ?_
    · (try dsimp only at hW)
      obtain ⟨y0, y1⟩ := Sn.c2 HR0.out hW
      go_simp
    try simp only [Act.put, List.setIfInBounds_toArray, List.set_cons_zero, List.set_cons_succ]
    refine headS_take (i := 3) (v := .int .i64 a) rfl (by kernel_rfl) (fun _ _ _ h => h) (Or.inl ⟨by rfl, fun W hW => ?_⟩) hHeld ?_
    · (try dsimp only at hW)
      go_simp
    try simp only [Act.put, List.setIfInBounds_toArray, List.set_cons_zero, List.set_cons_succ]
    refine headS_take (i := 4) (v := .agg #[.int .u64 y1, .int .u64 y2]) rfl (by kernel_rfl) (fun _ _ _ h => h) (Or.inl ⟨by rfl, fun W hW => ?_⟩) hHeld ?_
    · (try dsimp only at hW)
      obtain ⟨y0, y1⟩ := Sn.c2 HR1.out hW
      go_simp
    try simp only [Act.put, List.setIfInBounds_toArray, List.set_cons_zero, List.set_cons_succ]
    refine headS_rest (fun b c W => Below v.heap.size v W ∧ b ≠ c ∧ v.heap.size ≤ b ∧ v.heap.size ≤ c ∧ Sn.Bk W b 24 #[.int .u64 0, .int .u64 0] ∧ Sn.Bk W c 24 #[.int .u64 0, .int .u64 0]) (fun b c => #[.int .i64 a, .agg #[.int .u64 x1, .int .u64 x2], .agg #[.int .u64 y1, .int .u64 y2], undef, .pointer (some ⟨w.heap.size, 0, none⟩), .pointer (some ⟨w.heap.size + 1, 0, none⟩), .pointer (some ⟨w.heap.size + 1 + 1, 0, none⟩), .bool false, .pointer (some ⟨b, 0, none⟩), .pointer (some ⟨c, 0, none⟩), undef, undef, .int .i64 a, .agg #[.int .u64 x1, .int .u64 x2], .agg #[.int .u64 p1, .int .u64 p2], .int .i64 a, .agg #[.int .u64 y1, .int .u64 y2], .agg #[.int .u64 q1, .int .u64 q2], undef, undef, undef, undef, undef, undef, undef, undef, undef, undef, undef, undef, undef, undef, undef, undef, undef]) ?_ ?_
    · rintro b c u ⟨hjb, hbc, hvb, hvc, hkb, hkc⟩
      simp only [List.drop_succ_cons, List.drop_zero]
      clear hHeld
      clear HR0 HR1
      have hbw := HB.out.size
      have l2 := Sn.bk_lt HR2.out
      have hr2 := Sn.bk_below HR2.out hjb (Sn.bk_lt HR2.out)
      have hB := Sn.below_next HB.out hjb HB.out.size
      clear HB HR2 hjb
      have HB := Lib.hid hB
      have HR2 := Lib.hid hr2
      clear hB hr2
      have H1C := Lib.hid (show (#[.int .u64 p1, .int .u64 p2] : Array Value).all (·.oneCell') = true by simp [Value.oneCell'])
      have H2C := Lib.hid (show (#[.int .u64 q1, .int .u64 q2] : Array Value).all (·.oneCell') = true by simp [Value.oneCell'])
      refine Sn.store_sp (.tmp 8) (.tmp 14) b #[.int .u64 0, .int .u64 0] #[.int .u64 p1, .int .u64 p2] hkb rfl rfl rfl rfl rfl rfl H1C.out ?_
      refine Sn.store_sp (.tmp 9) (.tmp 17) c #[.int .u64 0, .int .u64 0] #[.int .u64 q1, .int .u64 q2] (Sn.bk_row_other hkc (by omega) _) rfl rfl rfl rfl rfl rfl H2C.out ?_
      have hB : Below w.heap.size w ((u.setRow b #[.int .u64 p1, .int .u64 p2]).setRow c #[.int .u64 q1, .int .u64 q2]) := Sn.below_set (Sn.below_set HB.out (by omega) _) (by omega) _
      have hr2 : Sn.Bk ((u.setRow b #[.int .u64 p1, .int .u64 p2]).setRow c #[.int .u64 q1, .int .u64 q2]) (w.heap.size + 1 + 1) 24 #[.int .u64 0, .int .u64 0] := Sn.bk_row_other (Sn.bk_row_other HR2.out (by omega) _) (by omega) _
      have hr3 : Sn.Bk ((u.setRow b #[.int .u64 p1, .int .u64 p2]).setRow c #[.int .u64 q1, .int .u64 q2]) b 24 #[.int .u64 p1, .int .u64 p2] := Sn.bk_row_other (Sn.bk_row hkb _) (by omega) _
      have hr4 : Sn.Bk ((u.setRow b #[.int .u64 p1, .int .u64 p2]).setRow c #[.int .u64 q1, .int .u64 q2]) c 24 #[.int .u64 q1, .int .u64 q2] := Sn.bk_row (Sn.bk_row_other hkc (by omega) _) _
      clear HB HR2 H1C H2C hkb hkc hbc hvb hvc hbw l2
      generalize ((u.setRow b #[.int .u64 p1, .int .u64 p2]).setRow c #[.int .u64 q1, .int .u64 q2]) = v3 at *
      have HB := Lib.hid hB
      have HR2 := Lib.hid hr2
      have HR3 := Lib.hid hr3
      have HR4 := Lib.hid hr4
      clear hB hr2 hr3 hr4
      clear v u
      rename World => v
      go_wp2_with fail
      refine qc_all (fun W => Below v.heap.size v W) (by kernel_rfl) (by kernel_rfl) (Below.refl _ _).drew ?_
      refine qc_take (.pointer (some ⟨b, 0, none⟩)) (by rfl) (fun W (hW : Below _ _ W) => ?_) ?_
      · skip
        go_simp
      try simp only [Act.put, List.setIfInBounds_toArray, List.set_cons_zero, List.set_cons_succ]
      refine qc_take (.int .u64 p1) (by rfl) (fun W (hW : Below _ _ W) => ?_) ?_
      · skip
        obtain ⟨y0, y1⟩ := Sn.c2 HR3.out hW
        go_simp
      try simp only [Act.put, List.setIfInBounds_toArray, List.set_cons_zero, List.set_cons_succ]
      refine qc_take (.pointer (some ⟨c, 0, none⟩)) (by rfl) (fun W (hW : Below _ _ W) => ?_) ?_
      · skip
        go_simp
      try simp only [Act.put, List.setIfInBounds_toArray, List.set_cons_zero, List.set_cons_succ]
      refine qc_take (.int .u64 q1) (by rfl) (fun W (hW : Below _ _ W) => ?_) ?_
      · skip
        obtain ⟨y0, y1⟩ := Sn.c2 HR4.out hW
        go_simp
      try simp only [Act.put, List.setIfInBounds_toArray, List.set_cons_zero, List.set_cons_succ]
      refine qc_take (.int .u64 lo) (by rfl) (fun W (hW : Below _ _ W) => ?_) ?_
      · skip
        go_simp
        exact (HLO.out W).mono fun e w9 h9 => ⟨h9.1, h9.2 ▸ hW⟩
      try simp only [Act.put, List.setIfInBounds_toArray, List.set_cons_zero, List.set_cons_succ]
      refine qc_take (.pointer (some ⟨b, 1, none⟩)) (by rfl) (fun W (hW : Below _ _ W) => ?_) ?_
      · skip
        go_simp
      try simp only [Act.put, List.setIfInBounds_toArray, List.set_cons_zero, List.set_cons_succ]
      refine qc_take (.int .u64 p2) (by rfl) (fun W (hW : Below _ _ W) => ?_) ?_
      · skip
        obtain ⟨y0, y1⟩ := Sn.c2 HR3.out hW
        go_simp
      try simp only [Act.put, List.setIfInBounds_toArray, List.set_cons_zero, List.set_cons_succ]
      refine qc_take (.pointer (some ⟨c, 1, none⟩)) (by rfl) (fun W (hW : Below _ _ W) => ?_) ?_
      · skip
        go_simp
      try simp only [Act.put, List.setIfInBounds_toArray, List.set_cons_zero, List.set_cons_succ]
      refine qc_take (.int .u64 q2) (by rfl) (fun W (hW : Below _ _ W) => ?_) ?_
      · skip
        obtain ⟨y0, y1⟩ := Sn.c2 HR4.out hW
        go_simp
      try simp only [Act.put, List.setIfInBounds_toArray, List.set_cons_zero, List.set_cons_succ]
      refine qc_take (.int .u64 hi) (by rfl) (fun W (hW : Below _ _ W) => ?_) ?_
      · skip
        go_simp
        exact (HHI.out W).mono fun e w9 h9 => ⟨h9.1, h9.2 ▸ hW⟩
      try simp only [Act.put, List.setIfInBounds_toArray, List.set_cons_zero, List.set_cons_succ]
      refine qc_take (.int .u64 lo) (by rfl) (fun W (hW : Below _ _ W) => ?_) ?_
      · skip
        go_simp
      try simp only [Act.put, List.setIfInBounds_toArray, List.set_cons_zero, List.set_cons_succ]
      refine qc_take (.int .u64 hi) (by rfl) (fun W (hW : Below _ _ W) => ?_) ?_
      · skip
        go_simp
      try simp only [Act.put, List.setIfInBounds_toArray, List.set_cons_zero, List.set_cons_succ]
      refine wpQuiet_nil ?_
      intro v2 hb
      have hr2 := Sn.bk_below HR2.out hb (Sn.bk_lt HR2.out)
      have hB := Sn.below_next HB.out hb HB.out.size
      clear HB HR2 hb
      have HB := Lib.hid hB
      have HR2 := Lib.hid hr2
      clear hB hr2
      clear v HR3 HR4
      rename World => v
      have H1C := Lib.hid (show (#[.int .u64 0, .int .u64 0] : Array Value).all (·.oneCell') = true from by simp [Value.oneCell'])
      go_wp2_with (with_reducible refine Sn.store_sp (.tmp 6) (.tmp 31) (w.heap.size + 1 + 1) #[.int .u64 0, .int .u64 0] #[.int .u64 0, .int .u64 0] HR2.out rfl rfl rfl rfl rfl rfl H1C.out ?_)
      exact Sn.ret_sp2 (w.heap.size + 1 + 1) #[.int .u64 0, .int .u64 0] _ (Sn.bk_row HR2.out _) rfl rfl rfl rfl rfl ⟨rfl, Sn.below_set HB.out (by omega) _⟩
    · intro hrest
      have HREST := Lib.hid hrest
      have HU0 := Lib.hid (show Below v.heap.size v v.drew from (Below.refl _ _).drew)
      clear hrest
      generalize v.drew = u0 at *
      refine headS_ready (rs := [2, 6, 7]) (by kernel_rfl) (by simp) (by rfl) ?_
      refine AllS.cons rfl (fun K hK => ?_) (AllS.cons rfl (fun K hK => ?_) (AllS.cons rfl (fun K hK => ?_) AllS.nil))
      · go_simp
        refine (HX.out u0).mono ?_
        rintro e u1 ⟨rfl, hb⟩
        have hS := Sn.below_next HU0.out hb HU0.out.size
        refine hK.out _ _ hS (fun hHeld => ?_)
        clear hK K hb
        have HU1 := Lib.hid hS
        clear hS 
        try simp only [Act.put, List.setIfInBounds_toArray, List.set_cons_zero, List.set_cons_succ]
        refine headS_ready (rs := [5, 6, 7]) (by kernel_rfl) (by simp) (by rfl) ?_
        refine AllS.cons rfl (fun K hK => ?_) (AllS.cons rfl (fun K hK => ?_) (AllS.cons rfl (fun K hK => ?_) AllS.nil))
        · go_simp
          refine (HY.out u1).mono ?_
          rintro e u2 ⟨rfl, hb⟩
          have hS := Sn.below_next HU1.out hb HU1.out.size
          refine hK.out _ _ hS (fun hHeld => ?_)
          clear hK K hb
          have HU2 := Lib.hid hS
          clear hS 
          try simp only [Act.put, List.setIfInBounds_toArray, List.set_cons_zero, List.set_cons_succ]
          refine headS_ready (rs := [6, 7]) (by kernel_rfl) (by simp) (by rfl) ?_
          refine AllS.cons rfl (fun K hK => ?_) (AllS.cons rfl (fun K hK => ?_) AllS.nil)
          · go_simp
            have hS : Below v.heap.size v (u2.alloc (.cells #[.int .u64 0, .int .u64 0] 24)) := HU2.out.alloc HU2.out.size _
            have hka3 : Sn.Bk (u2.alloc (.cells #[.int .u64 0, .int .u64 0] 24)) u2.heap.size 24 #[.int .u64 0, .int .u64 0] := Sn.bk_new _ _ _
            have hva3 := HU2.out.size
            refine hK.out _ _ hS (fun hHeld => ?_)
            clear hK K
            obtain ⟨a3, hg⟩ : ∃ g, u2.heap.size = g := ⟨_, rfl⟩
            rw [hg] at hka3 hva3
            simp only [hg] at hHeld ⊢
            generalize u2.alloc (.cells #[.int .u64 0, .int .u64 0] 24) = u3 at *
            clear hg
            have HU3 := Lib.hid hS
            have HKa3 := Lib.hid hka3
            clear hS hka3 
            try simp only [Act.put, List.setIfInBounds_toArray, List.set_cons_zero, List.set_cons_succ]
            refine headS_ready (rs := [7]) (by kernel_rfl) (by simp) (by rfl) ?_
            refine AllS.cons rfl (fun K hK => ?_) AllS.nil
            · go_simp
              have hS : Below v.heap.size v (u3.alloc (.cells #[.int .u64 0, .int .u64 0] 24)) := HU3.out.alloc HU3.out.size _
              have hka4 : Sn.Bk (u3.alloc (.cells #[.int .u64 0, .int .u64 0] 24)) u3.heap.size 24 #[.int .u64 0, .int .u64 0] := Sn.bk_new _ _ _
              have hva4 := HU3.out.size
              have hka3 : Sn.Bk (u3.alloc (.cells #[.int .u64 0, .int .u64 0] 24)) a3 24 #[.int .u64 0, .int .u64 0] := Sn.bk_old HKa3.out _
              have hla3a4 := Sn.bk_lt HKa3.out
              refine hK.out _ _ hS (fun hHeld => ?_)
              clear hK K
              obtain ⟨a4, hg⟩ : ∃ g, u3.heap.size = g := ⟨_, rfl⟩
              rw [hg] at hka4 hva4 hla3a4
              simp only [hg] at hHeld ⊢
              generalize u3.alloc (.cells #[.int .u64 0, .int .u64 0] 24) = u4 at *
              clear hg
              have HU4 := Lib.hid hS
              have HKa4 := Lib.hid hka4
              clear HKa3
              have HKa3 := Lib.hid hka3
              clear hS hka4 hka3
              try simp only [Act.put, List.setIfInBounds_toArray, List.set_cons_zero, List.set_cons_succ]
              refine ⟨by kernel_rfl, HREST.out a3 a4 u4 ⟨HU4.out, by omega, by omega, by omega, HKa3.out, HKa4.out⟩⟩
          · go_simp
            have hS : Below v.heap.size v (u2.alloc (.cells #[.int .u64 0, .int .u64 0] 24)) := HU2.out.alloc HU2.out.size _
            have hka5 : Sn.Bk (u2.alloc (.cells #[.int .u64 0, .int .u64 0] 24)) u2.heap.size 24 #[.int .u64 0, .int .u64 0] := Sn.bk_new _ _ _
            have hva5 := HU2.out.size
            refine hK.out _ _ hS (fun hHeld => ?_)
            clear hK K
            obtain ⟨a5, hg⟩ : ∃ g, u2.heap.size = g := ⟨_, rfl⟩
            rw [hg] at hka5 hva5
            simp only [hg] at hHeld ⊢
            generalize u2.alloc (.cells #[.int .u64 0, .int .u64 0] 24) = u5 at *
            clear hg
            have HU5 := Lib.hid hS
            have HKa5 := Lib.hid hka5
            clear hS hka5 
            try simp only [Act.put, List.setIfInBounds_toArray, List.set_cons_zero, List.set_cons_succ]
            refine headS_ready (rs := [6]) (by kernel_rfl) (by simp) (by rfl) ?_
            refine AllS.cons rfl (fun K hK => ?_) AllS.nil
            · go_simp
              have hS : Below v.heap.size v (u5.alloc (.cells #[.int .u64 0, .int .u64 0] 24)) := HU5.out.alloc HU5.out.size _
              have hka6 : Sn.Bk (u5.alloc (.cells #[.int .u64 0, .int .u64 0] 24)) u5.heap.size 24 #[.int .u64 0, .int .u64 0] := Sn.bk_new _ _ _
              have hva6 := HU5.out.size
              have hka5 : Sn.Bk (u5.alloc (.cells #[.int .u64 0, .int .u64 0] 24)) a5 24 #[.int .u64 0, .int .u64 0] := Sn.bk_old HKa5.out _
              have hla5a6 := Sn.bk_lt HKa5.out
              refine hK.out _ _ hS (fun hHeld => ?_)
              clear hK K
              obtain ⟨a6, hg⟩ : ∃ g, u5.heap.size = g := ⟨_, rfl⟩
              rw [hg] at hka6 hva6 hla5a6
              simp only [hg] at hHeld ⊢
              generalize u5.alloc (.cells #[.int .u64 0, .int .u64 0] 24) = u6 at *
              clear hg
              have HU6 := Lib.hid hS
              have HKa6 := Lib.hid hka6
              clear HKa5
              have HKa5 := Lib.hid hka5
              clear hS hka6 hka5
              try simp only [Act.put, List.setIfInBounds_toArray, List.set_cons_zero, List.set_cons_succ]
              refine ⟨by kernel_rfl, HREST.out a6 a5 u6 ⟨HU6.out, by omega, by omega, by omega, HKa6.out, HKa5.out⟩⟩
        · go_simp
          have hS : Below v.heap.size v (u1.alloc (.cells #[.int .u64 0, .int .u64 0] 24)) := HU1.out.alloc HU1.out.size _
          have hka7 : Sn.Bk (u1.alloc (.cells #[.int .u64 0, .int .u64 0] 24)) u1.heap.size 24 #[.int .u64 0, .int .u64 0] := Sn.bk_new _ _ _
          have hva7 := HU1.out.size
          refine hK.out _ _ hS (fun hHeld => ?_)
          clear hK K
          obtain ⟨a7, hg⟩ : ∃ g, u1.heap.size = g := ⟨_, rfl⟩
          rw [hg] at hka7 hva7
          simp only [hg] at hHeld ⊢
          generalize u1.alloc (.cells #[.int .u64 0, .int .u64 0] 24) = u7 at *
          clear hg
          have HU7 := Lib.hid hS
          have HKa7 := Lib.hid hka7
          clear hS hka7 
          try simp only [Act.put, List.setIfInBounds_toArray, List.set_cons_zero, List.set_cons_succ]
          refine headS_ready (rs := [5, 7]) (by kernel_rfl) (by simp) (by rfl) ?_
          refine AllS.cons rfl (fun K hK => ?_) (AllS.cons rfl (fun K hK => ?_) AllS.nil)
          · go_simp
            refine (HY.out u7).mono ?_
            rintro e u8 ⟨rfl, hb⟩
            have hS := Sn.below_next HU7.out hb HU7.out.size
            have hka7 := Sn.bk_below HKa7.out hb (Sn.bk_lt HKa7.out)
            refine hK.out _ _ hS (fun hHeld => ?_)
            clear hK K hb
            have HU8 := Lib.hid hS
            clear HKa7
            have HKa7 := Lib.hid hka7
            clear hS hka7
            try simp only [Act.put, List.setIfInBounds_toArray, List.set_cons_zero, List.set_cons_succ]
            refine headS_ready (rs := [7]) (by kernel_rfl) (by simp) (by rfl) ?_
            refine AllS.cons rfl (fun K hK => ?_) AllS.nil
            · go_simp
              have hS : Below v.heap.size v (u8.alloc (.cells #[.int .u64 0, .int .u64 0] 24)) := HU8.out.alloc HU8.out.size _
              have hka9 : Sn.Bk (u8.alloc (.cells #[.int .u64 0, .int .u64 0] 24)) u8.heap.size 24 #[.int .u64 0, .int .u64 0] := Sn.bk_new _ _ _
              have hva9 := HU8.out.size
              have hka7 : Sn.Bk (u8.alloc (.cells #[.int .u64 0, .int .u64 0] 24)) a7 24 #[.int .u64 0, .int .u64 0] := Sn.bk_old HKa7.out _
              have hla7a9 := Sn.bk_lt HKa7.out
              refine hK.out _ _ hS (fun hHeld => ?_)
              clear hK K
              obtain ⟨a9, hg⟩ : ∃ g, u8.heap.size = g := ⟨_, rfl⟩
              rw [hg] at hka9 hva9 hla7a9
              simp only [hg] at hHeld ⊢
              generalize u8.alloc (.cells #[.int .u64 0, .int .u64 0] 24) = u9 at *
              clear hg
              have HU9 := Lib.hid hS
              have HKa9 := Lib.hid hka9
              clear HKa7
              have HKa7 := Lib.hid hka7
              clear hS hka9 hka7
              try simp only [Act.put, List.setIfInBounds_toArray, List.set_cons_zero, List.set_cons_succ]
              refine ⟨by kernel_rfl, HREST.out a7 a9 u9 ⟨HU9.out, by omega, by omega, by omega, HKa7.out, HKa9.out⟩⟩
          · go_simp
            have hS : Below v.heap.size v (u7.alloc (.cells #[.int .u64 0, .int .u64 0] 24)) := HU7.out.alloc HU7.out.size _
            have hka10 : Sn.Bk (u7.alloc (.cells #[.int .u64 0, .int .u64 0] 24)) u7.heap.size 24 #[.int .u64 0, .int .u64 0] := Sn.bk_new _ _ _
            have hva10 := HU7.out.size
            have hka7 : Sn.Bk (u7.alloc (.cells #[.int .u64 0, .int .u64 0] 24)) a7 24 #[.int .u64 0, .int .u64 0] := Sn.bk_old HKa7.out _
            have hla7a10 := Sn.bk_lt HKa7.out
            refine hK.out _ _ hS (fun hHeld => ?_)
            clear hK K
            obtain ⟨a10, hg⟩ : ∃ g, u7.heap.size = g := ⟨_, rfl⟩
            rw [hg] at hka10 hva10 hla7a10
            simp only [hg] at hHeld ⊢
            generalize u7.alloc (.cells #[.int .u64 0, .int .u64 0] 24) = u10 at *
            clear hg
            have HU10 := Lib.hid hS
            have HKa10 := Lib.hid hka10
            clear HKa7
            have HKa7 := Lib.hid hka7
            clear hS hka10 hka7
            try simp only [Act.put, List.setIfInBounds_toArray, List.set_cons_zero, List.set_cons_succ]
            refine headS_ready (rs := [5]) (by kernel_rfl) (by simp) (by rfl) ?_
            refine AllS.cons rfl (fun K hK => ?_) AllS.nil
            · go_simp
              refine (HY.out u10).mono ?_
              rintro e u11 ⟨rfl, hb⟩
              have hS := Sn.below_next HU10.out hb HU10.out.size
              have hka7 := Sn.bk_below HKa7.out hb (Sn.bk_lt HKa7.out)
              have hka10 := Sn.bk_below HKa10.out hb (Sn.bk_lt HKa10.out)
              refine hK.out _ _ hS (fun hHeld => ?_)
              clear hK K hb
              have HU11 := Lib.hid hS
              clear HKa7 HKa10
              have HKa7 := Lib.hid hka7
              have HKa10 := Lib.hid hka10
              clear hS hka7 hka10
              try simp only [Act.put, List.setIfInBounds_toArray, List.set_cons_zero, List.set_cons_succ]
              refine ⟨by kernel_rfl, HREST.out a7 a10 u11 ⟨HU11.out, by omega, by omega, by omega, HKa7.out, HKa10.out⟩⟩
        · go_simp
          have hS : Below v.heap.size v (u1.alloc (.cells #[.int .u64 0, .int .u64 0] 24)) := HU1.out.alloc HU1.out.size _
          have hka12 : Sn.Bk (u1.alloc (.cells #[.int .u64 0, .int .u64 0] 24)) u1.heap.size 24 #[.int .u64 0, .int .u64 0] := Sn.bk_new _ _ _
          have hva12 := HU1.out.size
          refine hK.out _ _ hS (fun hHeld => ?_)
          clear hK K
          obtain ⟨a12, hg⟩ : ∃ g, u1.heap.size = g := ⟨_, rfl⟩
          rw [hg] at hka12 hva12
          simp only [hg] at hHeld ⊢
          generalize u1.alloc (.cells #[.int .u64 0, .int .u64 0] 24) = u12 at *
          clear hg
          have HU12 := Lib.hid hS
          have HKa12 := Lib.hid hka12
          clear hS hka12 
          try simp only [Act.put, List.setIfInBounds_toArray, List.set_cons_zero, List.set_cons_succ]
          refine headS_ready (rs := [5, 6]) (by kernel_rfl) (by simp) (by rfl) ?_
          refine AllS.cons rfl (fun K hK => ?_) (AllS.cons rfl (fun K hK => ?_) AllS.nil)
          · go_simp
            refine (HY.out u12).mono ?_
            rintro e u13 ⟨rfl, hb⟩
            have hS := Sn.below_next HU12.out hb HU12.out.size
            have hka12 := Sn.bk_below HKa12.out hb (Sn.bk_lt HKa12.out)
            refine hK.out _ _ hS (fun hHeld => ?_)
            clear hK K hb
            have HU13 := Lib.hid hS
            clear HKa12
            have HKa12 := Lib.hid hka12
            clear hS hka12
            try simp only [Act.put, List.setIfInBounds_toArray, List.set_cons_zero, List.set_cons_succ]
            refine headS_ready (rs := [6]) (by kernel_rfl) (by simp) (by rfl) ?_
            refine AllS.cons rfl (fun K hK => ?_) AllS.nil
            · go_simp
              have hS : Below v.heap.size v (u13.alloc (.cells #[.int .u64 0, .int .u64 0] 24)) := HU13.out.alloc HU13.out.size _
              have hka14 : Sn.Bk (u13.alloc (.cells #[.int .u64 0, .int .u64 0] 24)) u13.heap.size 24 #[.int .u64 0, .int .u64 0] := Sn.bk_new _ _ _
              have hva14 := HU13.out.size
              have hka12 : Sn.Bk (u13.alloc (.cells #[.int .u64 0, .int .u64 0] 24)) a12 24 #[.int .u64 0, .int .u64 0] := Sn.bk_old HKa12.out _
              have hla12a14 := Sn.bk_lt HKa12.out
              refine hK.out _ _ hS (fun hHeld => ?_)
              clear hK K
              obtain ⟨a14, hg⟩ : ∃ g, u13.heap.size = g := ⟨_, rfl⟩
              rw [hg] at hka14 hva14 hla12a14
              simp only [hg] at hHeld ⊢
              generalize u13.alloc (.cells #[.int .u64 0, .int .u64 0] 24) = u14 at *
              clear hg
              have HU14 := Lib.hid hS
              have HKa14 := Lib.hid hka14
              clear HKa12
              have HKa12 := Lib.hid hka12
              clear hS hka14 hka12
              try simp only [Act.put, List.setIfInBounds_toArray, List.set_cons_zero, List.set_cons_succ]
              refine ⟨by kernel_rfl, HREST.out a14 a12 u14 ⟨HU14.out, by omega, by omega, by omega, HKa14.out, HKa12.out⟩⟩
          · go_simp
            have hS : Below v.heap.size v (u12.alloc (.cells #[.int .u64 0, .int .u64 0] 24)) := HU12.out.alloc HU12.out.size _
            have hka15 : Sn.Bk (u12.alloc (.cells #[.int .u64 0, .int .u64 0] 24)) u12.heap.size 24 #[.int .u64 0, .int .u64 0] := Sn.bk_new _ _ _
            have hva15 := HU12.out.size
            have hka12 : Sn.Bk (u12.alloc (.cells #[.int .u64 0, .int .u64 0] 24)) a12 24 #[.int .u64 0, .int .u64 0] := Sn.bk_old HKa12.out _
            have hla12a15 := Sn.bk_lt HKa12.out
            refine hK.out _ _ hS (fun hHeld => ?_)
            clear hK K
            obtain ⟨a15, hg⟩ : ∃ g, u12.heap.size = g := ⟨_, rfl⟩
            rw [hg] at hka15 hva15 hla12a15
            simp only [hg] at hHeld ⊢
            generalize u12.alloc (.cells #[.int .u64 0, .int .u64 0] 24) = u15 at *
            clear hg
            have HU15 := Lib.hid hS
            have HKa15 := Lib.hid hka15
            clear HKa12
            have HKa12 := Lib.hid hka12
            clear hS hka15 hka12
            try simp only [Act.put, List.setIfInBounds_toArray, List.set_cons_zero, List.set_cons_succ]
            refine headS_ready (rs := [5]) (by kernel_rfl) (by simp) (by rfl) ?_
            refine AllS.cons rfl (fun K hK => ?_) AllS.nil
            · go_simp
              refine (HY.out u15).mono ?_
              rintro e u16 ⟨rfl, hb⟩
              have hS := Sn.below_next HU15.out hb HU15.out.size
              have hka12 := Sn.bk_below HKa12.out hb (Sn.bk_lt HKa12.out)
              have hka15 := Sn.bk_below HKa15.out hb (Sn.bk_lt HKa15.out)
              refine hK.out _ _ hS (fun hHeld => ?_)
              clear hK K hb
              have HU16 := Lib.hid hS
              clear HKa12 HKa15
              have HKa12 := Lib.hid hka12
              have HKa15 := Lib.hid hka15
              clear hS hka12 hka15
              try simp only [Act.put, List.setIfInBounds_toArray, List.set_cons_zero, List.set_cons_succ]
              refine ⟨by kernel_rfl, HREST.out a15 a12 u16 ⟨HU16.out, by omega, by omega, by omega, HKa15.out, HKa12.out⟩⟩
      · go_simp
        have hS : Below v.heap.size v (u0.alloc (.cells #[.int .u64 0, .int .u64 0] 24)) := HU0.out.alloc HU0.out.size _
        have hka17 : Sn.Bk (u0.alloc (.cells #[.int .u64 0, .int .u64 0] 24)) u0.heap.size 24 #[.int .u64 0, .int .u64 0] := Sn.bk_new _ _ _
        have hva17 := HU0.out.size
        refine hK.out _ _ hS (fun hHeld => ?_)
        clear hK K
        obtain ⟨a17, hg⟩ : ∃ g, u0.heap.size = g := ⟨_, rfl⟩
        rw [hg] at hka17 hva17
        simp only [hg] at hHeld ⊢
        generalize u0.alloc (.cells #[.int .u64 0, .int .u64 0] 24) = u17 at *
        clear hg
        have HU17 := Lib.hid hS
        have HKa17 := Lib.hid hka17
        clear hS hka17 
        try simp only [Act.put, List.setIfInBounds_toArray, List.set_cons_zero, List.set_cons_succ]
        refine headS_ready (rs := [2, 7]) (by kernel_rfl) (by simp) (by rfl) ?_
        refine AllS.cons rfl (fun K hK => ?_) (AllS.cons rfl (fun K hK => ?_) AllS.nil)
        · go_simp
          refine (HX.out u17).mono ?_
          rintro e u18 ⟨rfl, hb⟩
          have hS := Sn.below_next HU17.out hb HU17.out.size
          have hka17 := Sn.bk_below HKa17.out hb (Sn.bk_lt HKa17.out)
          refine hK.out _ _ hS (fun hHeld => ?_)
          clear hK K hb
          have HU18 := Lib.hid hS
          clear HKa17
          have HKa17 := Lib.hid hka17
          clear hS hka17
          try simp only [Act.put, List.setIfInBounds_toArray, List.set_cons_zero, List.set_cons_succ]
          refine headS_ready (rs := [5, 7]) (by kernel_rfl) (by simp) (by rfl) ?_
          refine AllS.cons rfl (fun K hK => ?_) (AllS.cons rfl (fun K hK => ?_) AllS.nil)
          · go_simp
            refine (HY.out u18).mono ?_
            rintro e u19 ⟨rfl, hb⟩
            have hS := Sn.below_next HU18.out hb HU18.out.size
            have hka17 := Sn.bk_below HKa17.out hb (Sn.bk_lt HKa17.out)
            refine hK.out _ _ hS (fun hHeld => ?_)
            clear hK K hb
            have HU19 := Lib.hid hS
            clear HKa17
            have HKa17 := Lib.hid hka17
            clear hS hka17
            try simp only [Act.put, List.setIfInBounds_toArray, List.set_cons_zero, List.set_cons_succ]
            refine headS_ready (rs := [7]) (by kernel_rfl) (by simp) (by rfl) ?_
            refine AllS.cons rfl (fun K hK => ?_) AllS.nil
            · go_simp
              have hS : Below v.heap.size v (u19.alloc (.cells #[.int .u64 0, .int .u64 0] 24)) := HU19.out.alloc HU19.out.size _
              have hka20 : Sn.Bk (u19.alloc (.cells #[.int .u64 0, .int .u64 0] 24)) u19.heap.size 24 #[.int .u64 0, .int .u64 0] := Sn.bk_new _ _ _
              have hva20 := HU19.out.size
              have hka17 : Sn.Bk (u19.alloc (.cells #[.int .u64 0, .int .u64 0] 24)) a17 24 #[.int .u64 0, .int .u64 0] := Sn.bk_old HKa17.out _
              have hla17a20 := Sn.bk_lt HKa17.out
              refine hK.out _ _ hS (fun hHeld => ?_)
              clear hK K
              obtain ⟨a20, hg⟩ : ∃ g, u19.heap.size = g := ⟨_, rfl⟩
              rw [hg] at hka20 hva20 hla17a20
              simp only [hg] at hHeld ⊢
              generalize u19.alloc (.cells #[.int .u64 0, .int .u64 0] 24) = u20 at *
              clear hg
              have HU20 := Lib.hid hS
              have HKa20 := Lib.hid hka20
              clear HKa17
              have HKa17 := Lib.hid hka17
              clear hS hka20 hka17
              try simp only [Act.put, List.setIfInBounds_toArray, List.set_cons_zero, List.set_cons_succ]
              refine ⟨by kernel_rfl, HREST.out a17 a20 u20 ⟨HU20.out, by omega, by omega, by omega, HKa17.out, HKa20.out⟩⟩
          · go_simp
            have hS : Below v.heap.size v (u18.alloc (.cells #[.int .u64 0, .int .u64 0] 24)) := HU18.out.alloc HU18.out.size _
            have hka21 : Sn.Bk (u18.alloc (.cells #[.int .u64 0, .int .u64 0] 24)) u18.heap.size 24 #[.int .u64 0, .int .u64 0] := Sn.bk_new _ _ _
            have hva21 := HU18.out.size
            have hka17 : Sn.Bk (u18.alloc (.cells #[.int .u64 0, .int .u64 0] 24)) a17 24 #[.int .u64 0, .int .u64 0] := Sn.bk_old HKa17.out _
            have hla17a21 := Sn.bk_lt HKa17.out
            refine hK.out _ _ hS (fun hHeld => ?_)
            clear hK K
            obtain ⟨a21, hg⟩ : ∃ g, u18.heap.size = g := ⟨_, rfl⟩
            rw [hg] at hka21 hva21 hla17a21
            simp only [hg] at hHeld ⊢
            generalize u18.alloc (.cells #[.int .u64 0, .int .u64 0] 24) = u21 at *
            clear hg
            have HU21 := Lib.hid hS
            have HKa21 := Lib.hid hka21
            clear HKa17
            have HKa17 := Lib.hid hka17
            clear hS hka21 hka17
            try simp only [Act.put, List.setIfInBounds_toArray, List.set_cons_zero, List.set_cons_succ]
            refine headS_ready (rs := [5]) (by kernel_rfl) (by simp) (by rfl) ?_
            refine AllS.cons rfl (fun K hK => ?_) AllS.nil
            · go_simp
              refine (HY.out u21).mono ?_
              rintro e u22 ⟨rfl, hb⟩
              have hS := Sn.below_next HU21.out hb HU21.out.size
              have hka17 := Sn.bk_below HKa17.out hb (Sn.bk_lt HKa17.out)
              have hka21 := Sn.bk_below HKa21.out hb (Sn.bk_lt HKa21.out)
              refine hK.out _ _ hS (fun hHeld => ?_)
              clear hK K hb
              have HU22 := Lib.hid hS
              clear HKa17 HKa21
              have HKa17 := Lib.hid hka17
              have HKa21 := Lib.hid hka21
              clear hS hka17 hka21
              try simp only [Act.put, List.setIfInBounds_toArray, List.set_cons_zero, List.set_cons_succ]
              refine ⟨by kernel_rfl, HREST.out a17 a21 u22 ⟨HU22.out, by omega, by omega, by omega, HKa17.out, HKa21.out⟩⟩
        · go_simp
          have hS : Below v.heap.size v (u17.alloc (.cells #[.int .u64 0, .int .u64 0] 24)) := HU17.out.alloc HU17.out.size _
          have hka23 : Sn.Bk (u17.alloc (.cells #[.int .u64 0, .int .u64 0] 24)) u17.heap.size 24 #[.int .u64 0, .int .u64 0] := Sn.bk_new _ _ _
          have hva23 := HU17.out.size
          have hka17 : Sn.Bk (u17.alloc (.cells #[.int .u64 0, .int .u64 0] 24)) a17 24 #[.int .u64 0, .int .u64 0] := Sn.bk_old HKa17.out _
          have hla17a23 := Sn.bk_lt HKa17.out
          refine hK.out _ _ hS (fun hHeld => ?_)
          clear hK K
          obtain ⟨a23, hg⟩ : ∃ g, u17.heap.size = g := ⟨_, rfl⟩
          rw [hg] at hka23 hva23 hla17a23
          simp only [hg] at hHeld ⊢
          generalize u17.alloc (.cells #[.int .u64 0, .int .u64 0] 24) = u23 at *
          clear hg
          have HU23 := Lib.hid hS
          have HKa23 := Lib.hid hka23
          clear HKa17
          have HKa17 := Lib.hid hka17
          clear hS hka23 hka17
          try simp only [Act.put, List.setIfInBounds_toArray, List.set_cons_zero, List.set_cons_succ]
          refine headS_ready (rs := [2]) (by kernel_rfl) (by simp) (by rfl) ?_
          refine AllS.cons rfl (fun K hK => ?_) AllS.nil
          · go_simp
            refine (HX.out u23).mono ?_
            rintro e u24 ⟨rfl, hb⟩
            have hS := Sn.below_next HU23.out hb HU23.out.size
            have hka17 := Sn.bk_below HKa17.out hb (Sn.bk_lt HKa17.out)
            have hka23 := Sn.bk_below HKa23.out hb (Sn.bk_lt HKa23.out)
            refine hK.out _ _ hS (fun hHeld => ?_)
            clear hK K hb
            have HU24 := Lib.hid hS
            clear HKa17 HKa23
            have HKa17 := Lib.hid hka17
            have HKa23 := Lib.hid hka23
            clear hS hka17 hka23
            try simp only [Act.put, List.setIfInBounds_toArray, List.set_cons_zero, List.set_cons_succ]
            refine headS_ready (rs := [5]) (by kernel_rfl) (by simp) (by rfl) ?_
            refine AllS.cons rfl (fun K hK => ?_) AllS.nil
            · go_simp
              refine (HY.out u24).mono ?_
              rintro e u25 ⟨rfl, hb⟩
              have hS := Sn.below_next HU24.out hb HU24.out.size
              have hka17 := Sn.bk_below HKa17.out hb (Sn.bk_lt HKa17.out)
              have hka23 := Sn.bk_below HKa23.out hb (Sn.bk_lt HKa23.out)
              refine hK.out _ _ hS (fun hHeld => ?_)
              clear hK K hb
              have HU25 := Lib.hid hS
              clear HKa17 HKa23
              have HKa17 := Lib.hid hka17
              have HKa23 := Lib.hid hka23
              clear hS hka17 hka23
              try simp only [Act.put, List.setIfInBounds_toArray, List.set_cons_zero, List.set_cons_succ]
              refine ⟨by kernel_rfl, HREST.out a17 a23 u25 ⟨HU25.out, by omega, by omega, by omega, HKa17.out, HKa23.out⟩⟩
      · go_simp
        have hS : Below v.heap.size v (u0.alloc (.cells #[.int .u64 0, .int .u64 0] 24)) := HU0.out.alloc HU0.out.size _
        have hka26 : Sn.Bk (u0.alloc (.cells #[.int .u64 0, .int .u64 0] 24)) u0.heap.size 24 #[.int .u64 0, .int .u64 0] := Sn.bk_new _ _ _
        have hva26 := HU0.out.size
        refine hK.out _ _ hS (fun hHeld => ?_)
        clear hK K
        obtain ⟨a26, hg⟩ : ∃ g, u0.heap.size = g := ⟨_, rfl⟩
        rw [hg] at hka26 hva26
        simp only [hg] at hHeld ⊢
        generalize u0.alloc (.cells #[.int .u64 0, .int .u64 0] 24) = u26 at *
        clear hg
        have HU26 := Lib.hid hS
        have HKa26 := Lib.hid hka26
        clear hS hka26 
        try simp only [Act.put, List.setIfInBounds_toArray, List.set_cons_zero, List.set_cons_succ]
        refine headS_ready (rs := [2, 6]) (by kernel_rfl) (by simp) (by rfl) ?_
        refine AllS.cons rfl (fun K hK => ?_) (AllS.cons rfl (fun K hK => ?_) AllS.nil)
        · go_simp
          refine (HX.out u26).mono ?_
          rintro e u27 ⟨rfl, hb⟩
          have hS := Sn.below_next HU26.out hb HU26.out.size
          have hka26 := Sn.bk_below HKa26.out hb (Sn.bk_lt HKa26.out)
          refine hK.out _ _ hS (fun hHeld => ?_)
          clear hK K hb
          have HU27 := Lib.hid hS
          clear HKa26
          have HKa26 := Lib.hid hka26
          clear hS hka26
          try simp only [Act.put, List.setIfInBounds_toArray, List.set_cons_zero, List.set_cons_succ]
          refine headS_ready (rs := [5, 6]) (by kernel_rfl) (by simp) (by rfl) ?_
          refine AllS.cons rfl (fun K hK => ?_) (AllS.cons rfl (fun K hK => ?_) AllS.nil)
          · go_simp
            refine (HY.out u27).mono ?_
            rintro e u28 ⟨rfl, hb⟩
            have hS := Sn.below_next HU27.out hb HU27.out.size
            have hka26 := Sn.bk_below HKa26.out hb (Sn.bk_lt HKa26.out)
            refine hK.out _ _ hS (fun hHeld => ?_)
            clear hK K hb
            have HU28 := Lib.hid hS
            clear HKa26
            have HKa26 := Lib.hid hka26
            clear hS hka26
            try simp only [Act.put, List.setIfInBounds_toArray, List.set_cons_zero, List.set_cons_succ]
            refine headS_ready (rs := [6]) (by kernel_rfl) (by simp) (by rfl) ?_
            refine AllS.cons rfl (fun K hK => ?_) AllS.nil
            · go_simp
              have hS : Below v.heap.size v (u28.alloc (.cells #[.int .u64 0, .int .u64 0] 24)) := HU28.out.alloc HU28.out.size _
              have hka29 : Sn.Bk (u28.alloc (.cells #[.int .u64 0, .int .u64 0] 24)) u28.heap.size 24 #[.int .u64 0, .int .u64 0] := Sn.bk_new _ _ _
              have hva29 := HU28.out.size
              have hka26 : Sn.Bk (u28.alloc (.cells #[.int .u64 0, .int .u64 0] 24)) a26 24 #[.int .u64 0, .int .u64 0] := Sn.bk_old HKa26.out _
              have hla26a29 := Sn.bk_lt HKa26.out
              refine hK.out _ _ hS (fun hHeld => ?_)
              clear hK K
              obtain ⟨a29, hg⟩ : ∃ g, u28.heap.size = g := ⟨_, rfl⟩
              rw [hg] at hka29 hva29 hla26a29
              simp only [hg] at hHeld ⊢
              generalize u28.alloc (.cells #[.int .u64 0, .int .u64 0] 24) = u29 at *
              clear hg
              have HU29 := Lib.hid hS
              have HKa29 := Lib.hid hka29
              clear HKa26
              have HKa26 := Lib.hid hka26
              clear hS hka29 hka26
              try simp only [Act.put, List.setIfInBounds_toArray, List.set_cons_zero, List.set_cons_succ]
              refine ⟨by kernel_rfl, HREST.out a29 a26 u29 ⟨HU29.out, by omega, by omega, by omega, HKa29.out, HKa26.out⟩⟩
          · go_simp
            have hS : Below v.heap.size v (u27.alloc (.cells #[.int .u64 0, .int .u64 0] 24)) := HU27.out.alloc HU27.out.size _
            have hka30 : Sn.Bk (u27.alloc (.cells #[.int .u64 0, .int .u64 0] 24)) u27.heap.size 24 #[.int .u64 0, .int .u64 0] := Sn.bk_new _ _ _
            have hva30 := HU27.out.size
            have hka26 : Sn.Bk (u27.alloc (.cells #[.int .u64 0, .int .u64 0] 24)) a26 24 #[.int .u64 0, .int .u64 0] := Sn.bk_old HKa26.out _
            have hla26a30 := Sn.bk_lt HKa26.out
            refine hK.out _ _ hS (fun hHeld => ?_)
            clear hK K
            obtain ⟨a30, hg⟩ : ∃ g, u27.heap.size = g := ⟨_, rfl⟩
            rw [hg] at hka30 hva30 hla26a30
            simp only [hg] at hHeld ⊢
            generalize u27.alloc (.cells #[.int .u64 0, .int .u64 0] 24) = u30 at *
            clear hg
            have HU30 := Lib.hid hS
            have HKa30 := Lib.hid hka30
            clear HKa26
            have HKa26 := Lib.hid hka26
            clear hS hka30 hka26
            try simp only [Act.put, List.setIfInBounds_toArray, List.set_cons_zero, List.set_cons_succ]
            refine headS_ready (rs := [5]) (by kernel_rfl) (by simp) (by rfl) ?_
            refine AllS.cons rfl (fun K hK => ?_) AllS.nil
            · go_simp
              refine (HY.out u30).mono ?_
              rintro e u31 ⟨rfl, hb⟩
              have hS := Sn.below_next HU30.out hb HU30.out.size
              have hka26 := Sn.bk_below HKa26.out hb (Sn.bk_lt HKa26.out)
              have hka30 := Sn.bk_below HKa30.out hb (Sn.bk_lt HKa30.out)
              refine hK.out _ _ hS (fun hHeld => ?_)
              clear hK K hb
              have HU31 := Lib.hid hS
              clear HKa26 HKa30
              have HKa26 := Lib.hid hka26
              have HKa30 := Lib.hid hka30
              clear hS hka26 hka30
              try simp only [Act.put, List.setIfInBounds_toArray, List.set_cons_zero, List.set_cons_succ]
              refine ⟨by kernel_rfl, HREST.out a30 a26 u31 ⟨HU31.out, by omega, by omega, by omega, HKa30.out, HKa26.out⟩⟩
        · go_simp
          have hS : Below v.heap.size v (u26.alloc (.cells #[.int .u64 0, .int .u64 0] 24)) := HU26.out.alloc HU26.out.size _
          have hka32 : Sn.Bk (u26.alloc (.cells #[.int .u64 0, .int .u64 0] 24)) u26.heap.size 24 #[.int .u64 0, .int .u64 0] := Sn.bk_new _ _ _
          have hva32 := HU26.out.size
          have hka26 : Sn.Bk (u26.alloc (.cells #[.int .u64 0, .int .u64 0] 24)) a26 24 #[.int .u64 0, .int .u64 0] := Sn.bk_old HKa26.out _
          have hla26a32 := Sn.bk_lt HKa26.out
          refine hK.out _ _ hS (fun hHeld => ?_)
          clear hK K
          obtain ⟨a32, hg⟩ : ∃ g, u26.heap.size = g := ⟨_, rfl⟩
          rw [hg] at hka32 hva32 hla26a32
          simp only [hg] at hHeld ⊢
          generalize u26.alloc (.cells #[.int .u64 0, .int .u64 0] 24) = u32 at *
          clear hg
          have HU32 := Lib.hid hS
          have HKa32 := Lib.hid hka32
          clear HKa26
          have HKa26 := Lib.hid hka26
          clear hS hka32 hka26
          try simp only [Act.put, List.setIfInBounds_toArray, List.set_cons_zero, List.set_cons_succ]
          refine headS_ready (rs := [2]) (by kernel_rfl) (by simp) (by rfl) ?_
          refine AllS.cons rfl (fun K hK => ?_) AllS.nil
          · go_simp
            refine (HX.out u32).mono ?_
            rintro e u33 ⟨rfl, hb⟩
            have hS := Sn.below_next HU32.out hb HU32.out.size
            have hka26 := Sn.bk_below HKa26.out hb (Sn.bk_lt HKa26.out)
            have hka32 := Sn.bk_below HKa32.out hb (Sn.bk_lt HKa32.out)
            refine hK.out _ _ hS (fun hHeld => ?_)
            clear hK K hb
            have HU33 := Lib.hid hS
            clear HKa26 HKa32
            have HKa26 := Lib.hid hka26
            have HKa32 := Lib.hid hka32
            clear hS hka26 hka32
            try simp only [Act.put, List.setIfInBounds_toArray, List.set_cons_zero, List.set_cons_succ]
            refine headS_ready (rs := [5]) (by kernel_rfl) (by simp) (by rfl) ?_
            refine AllS.cons rfl (fun K hK => ?_) AllS.nil
            · go_simp
              refine (HY.out u33).mono ?_
              rintro e u34 ⟨rfl, hb⟩
              have hS := Sn.below_next HU33.out hb HU33.out.size
              have hka26 := Sn.bk_below HKa26.out hb (Sn.bk_lt HKa26.out)
              have hka32 := Sn.bk_below HKa32.out hb (Sn.bk_lt HKa32.out)
              refine hK.out _ _ hS (fun hHeld => ?_)
              clear hK K hb
              have HU34 := Lib.hid hS
              clear HKa26 HKa32
              have HKa26 := Lib.hid hka26
              have HKa32 := Lib.hid hka32
              clear hS hka26 hka32
              try simp only [Act.put, List.setIfInBounds_toArray, List.set_cons_zero, List.set_cons_succ]
              refine ⟨by kernel_rfl, HREST.out a32 a26 u34 ⟨HU34.out, by omega, by omega, by omega, HKa32.out, HKa26.out⟩⟩
  · rw [if_neg hc]
    have hd : decide (lo > hi) = false := by simpa using hc
    clear hc
    go_enter Try.func16, Try.ntmps16
    go_upto_region 1 with (fail)
    have hB : Below w.heap.size w (((w.alloc (.cells #[.int .u64 x1, .int .u64 x2] 24)).alloc (.cells #[.int .u64 y1, .int .u64 y2] 24)).alloc (.cells #[.int .u64 0, .int .u64 0] 24)) := ((((Below.refl _ _).alloc (Nat.le_refl _) _).alloc (by simp) _).alloc (by simp; omega) _)
    have hr0 : Sn.Bk (((w.alloc (.cells #[.int .u64 x1, .int .u64 x2] 24)).alloc (.cells #[.int .u64 y1, .int .u64 y2] 24)).alloc (.cells #[.int .u64 0, .int .u64 0] 24)) (w.heap.size) 24 #[.int .u64 x1, .int .u64 x2] := Sn.bk_old (Sn.bk_old (Sn.bk_new _ _ _) _) _
    have hr1 : Sn.Bk (((w.alloc (.cells #[.int .u64 x1, .int .u64 x2] 24)).alloc (.cells #[.int .u64 y1, .int .u64 y2] 24)).alloc (.cells #[.int .u64 0, .int .u64 0] 24)) (w.heap.size + 1) 24 #[.int .u64 y1, .int .u64 y2] := Sn.bk_old (Sn.bk_at (by simp)) _
    have hr2 : Sn.Bk (((w.alloc (.cells #[.int .u64 x1, .int .u64 x2] 24)).alloc (.cells #[.int .u64 y1, .int .u64 y2] 24)).alloc (.cells #[.int .u64 0, .int .u64 0] 24)) (w.heap.size + 1 + 1) 24 #[.int .u64 0, .int .u64 0] := Sn.bk_at (by simp)
    generalize (((w.alloc (.cells #[.int .u64 x1, .int .u64 x2] 24)).alloc (.cells #[.int .u64 y1, .int .u64 y2] 24)).alloc (.cells #[.int .u64 0, .int .u64 0] 24)) = v at *
    have HB := Lib.hid hB
    have HR0 := Lib.hid hr0
    have HR1 := Lib.hid hr1
    have HR2 := Lib.hid hr2
    clear hB hr0 hr1 hr2
    refine held_tail (S := fun W => Below v.heap.size v W) 8 (by kernel_rfl) (by simp) (Below.refl _ _).drew (fun hHeld => ?_)
    refine headS_take (i := 0) (v := .int .i64 a) rfl (by kernel_rfl) (fun _ _ _ h => h) (Or.inl ⟨by rfl, fun W hW => ?_⟩) hHeld ?_
    · (try dsimp only at hW)
      go_simp
    try simp only [Act.put, List.setIfInBounds_toArray, List.set_cons_zero, List.set_cons_succ]
    refine headS_take (i := 1) (v := .agg #[.int .u64 x1, .int .u64 x2]) rfl (by kernel_rfl) (fun _ _ _ h => h) (Or.inl ⟨by rfl, fun W hW => ?_⟩) hHeld ?_
    · (try dsimp only at hW)
      obtain ⟨y0, y1⟩ := Sn.c2 HR0.out hW
      go_simp
    try simp only [Act.put, List.setIfInBounds_toArray, List.set_cons_zero, List.set_cons_succ]
    refine headS_take (i := 3) (v := .int .i64 a) rfl (by kernel_rfl) (fun _ _ _ h => h) (Or.inl ⟨by rfl, fun W hW => ?_⟩) hHeld ?_
    · (try dsimp only at hW)
      go_simp
    try simp only [Act.put, List.setIfInBounds_toArray, List.set_cons_zero, List.set_cons_succ]
    refine headS_take (i := 4) (v := .agg #[.int .u64 y1, .int .u64 y2]) rfl (by kernel_rfl) (fun _ _ _ h => h) (Or.inl ⟨by rfl, fun W hW => ?_⟩) hHeld ?_
    · (try dsimp only at hW)
      obtain ⟨y0, y1⟩ := Sn.c2 HR1.out hW
      go_simp
    try simp only [Act.put, List.setIfInBounds_toArray, List.set_cons_zero, List.set_cons_succ]
    refine headS_rest (fun b c W => Below v.heap.size v W ∧ b ≠ c ∧ v.heap.size ≤ b ∧ v.heap.size ≤ c ∧ Sn.Bk W b 24 #[.int .u64 0, .int .u64 0] ∧ Sn.Bk W c 24 #[.int .u64 0, .int .u64 0]) (fun b c => #[.int .i64 a, .agg #[.int .u64 x1, .int .u64 x2], .agg #[.int .u64 y1, .int .u64 y2], undef, .pointer (some ⟨w.heap.size, 0, none⟩), .pointer (some ⟨w.heap.size + 1, 0, none⟩), .pointer (some ⟨w.heap.size + 1 + 1, 0, none⟩), .bool false, .pointer (some ⟨b, 0, none⟩), .pointer (some ⟨c, 0, none⟩), undef, undef, .int .i64 a, .agg #[.int .u64 x1, .int .u64 x2], .agg #[.int .u64 p1, .int .u64 p2], .int .i64 a, .agg #[.int .u64 y1, .int .u64 y2], .agg #[.int .u64 q1, .int .u64 q2], undef, undef, undef, undef, undef, undef, undef, undef, undef, undef, undef, undef, undef, undef, undef, undef, undef]) ?_ ?_
    · rintro b c u ⟨hjb, hbc, hvb, hvc, hkb, hkc⟩
      simp only [List.drop_succ_cons, List.drop_zero]
      clear hHeld
      clear HR0 HR1
      have hbw := HB.out.size
      have l2 := Sn.bk_lt HR2.out
      have hr2 := Sn.bk_below HR2.out hjb (Sn.bk_lt HR2.out)
      have hB := Sn.below_next HB.out hjb HB.out.size
      clear HB HR2 hjb
      have HB := Lib.hid hB
      have HR2 := Lib.hid hr2
      clear hB hr2
      have H1C := Lib.hid (show (#[.int .u64 p1, .int .u64 p2] : Array Value).all (·.oneCell') = true by simp [Value.oneCell'])
      have H2C := Lib.hid (show (#[.int .u64 q1, .int .u64 q2] : Array Value).all (·.oneCell') = true by simp [Value.oneCell'])
      refine Sn.store_sp (.tmp 8) (.tmp 14) b #[.int .u64 0, .int .u64 0] #[.int .u64 p1, .int .u64 p2] hkb rfl rfl rfl rfl rfl rfl H1C.out ?_
      refine Sn.store_sp (.tmp 9) (.tmp 17) c #[.int .u64 0, .int .u64 0] #[.int .u64 q1, .int .u64 q2] (Sn.bk_row_other hkc (by omega) _) rfl rfl rfl rfl rfl rfl H2C.out ?_
      have hB : Below w.heap.size w ((u.setRow b #[.int .u64 p1, .int .u64 p2]).setRow c #[.int .u64 q1, .int .u64 q2]) := Sn.below_set (Sn.below_set HB.out (by omega) _) (by omega) _
      have hr2 : Sn.Bk ((u.setRow b #[.int .u64 p1, .int .u64 p2]).setRow c #[.int .u64 q1, .int .u64 q2]) (w.heap.size + 1 + 1) 24 #[.int .u64 0, .int .u64 0] := Sn.bk_row_other (Sn.bk_row_other HR2.out (by omega) _) (by omega) _
      have hr3 : Sn.Bk ((u.setRow b #[.int .u64 p1, .int .u64 p2]).setRow c #[.int .u64 q1, .int .u64 q2]) b 24 #[.int .u64 p1, .int .u64 p2] := Sn.bk_row_other (Sn.bk_row hkb _) (by omega) _
      have hr4 : Sn.Bk ((u.setRow b #[.int .u64 p1, .int .u64 p2]).setRow c #[.int .u64 q1, .int .u64 q2]) c 24 #[.int .u64 q1, .int .u64 q2] := Sn.bk_row (Sn.bk_row_other hkc (by omega) _) _
      clear HB HR2 H1C H2C hkb hkc hbc hvb hvc hbw l2
      generalize ((u.setRow b #[.int .u64 p1, .int .u64 p2]).setRow c #[.int .u64 q1, .int .u64 q2]) = v3 at *
      have HB := Lib.hid hB
      have HR2 := Lib.hid hr2
      have HR3 := Lib.hid hr3
      have HR4 := Lib.hid hr4
      clear hB hr2 hr3 hr4
      clear v u
      rename World => v
      go_wp2_with fail
      refine qc_all (fun W => Below v.heap.size v W) (by kernel_rfl) (by kernel_rfl) (Below.refl _ _).drew ?_
      refine qc_take (.pointer (some ⟨b, 0, none⟩)) (by rfl) (fun W (hW : Below _ _ W) => ?_) ?_
      · skip
        go_simp
      try simp only [Act.put, List.setIfInBounds_toArray, List.set_cons_zero, List.set_cons_succ]
      refine qc_take (.int .u64 p1) (by rfl) (fun W (hW : Below _ _ W) => ?_) ?_
      · skip
        obtain ⟨y0, y1⟩ := Sn.c2 HR3.out hW
        go_simp
      try simp only [Act.put, List.setIfInBounds_toArray, List.set_cons_zero, List.set_cons_succ]
      refine qc_take (.pointer (some ⟨c, 0, none⟩)) (by rfl) (fun W (hW : Below _ _ W) => ?_) ?_
      · skip
        go_simp
      try simp only [Act.put, List.setIfInBounds_toArray, List.set_cons_zero, List.set_cons_succ]
      refine qc_take (.int .u64 q1) (by rfl) (fun W (hW : Below _ _ W) => ?_) ?_
      · skip
        obtain ⟨y0, y1⟩ := Sn.c2 HR4.out hW
        go_simp
      try simp only [Act.put, List.setIfInBounds_toArray, List.set_cons_zero, List.set_cons_succ]
      refine qc_take (.int .u64 lo) (by rfl) (fun W (hW : Below _ _ W) => ?_) ?_
      · skip
        go_simp
        exact (HLO.out W).mono fun e w9 h9 => ⟨h9.1, h9.2 ▸ hW⟩
      try simp only [Act.put, List.setIfInBounds_toArray, List.set_cons_zero, List.set_cons_succ]
      refine qc_take (.pointer (some ⟨b, 1, none⟩)) (by rfl) (fun W (hW : Below _ _ W) => ?_) ?_
      · skip
        go_simp
      try simp only [Act.put, List.setIfInBounds_toArray, List.set_cons_zero, List.set_cons_succ]
      refine qc_take (.int .u64 p2) (by rfl) (fun W (hW : Below _ _ W) => ?_) ?_
      · skip
        obtain ⟨y0, y1⟩ := Sn.c2 HR3.out hW
        go_simp
      try simp only [Act.put, List.setIfInBounds_toArray, List.set_cons_zero, List.set_cons_succ]
      refine qc_take (.pointer (some ⟨c, 1, none⟩)) (by rfl) (fun W (hW : Below _ _ W) => ?_) ?_
      · skip
        go_simp
      try simp only [Act.put, List.setIfInBounds_toArray, List.set_cons_zero, List.set_cons_succ]
      refine qc_take (.int .u64 q2) (by rfl) (fun W (hW : Below _ _ W) => ?_) ?_
      · skip
        obtain ⟨y0, y1⟩ := Sn.c2 HR4.out hW
        go_simp
      try simp only [Act.put, List.setIfInBounds_toArray, List.set_cons_zero, List.set_cons_succ]
      refine qc_take (.int .u64 hi) (by rfl) (fun W (hW : Below _ _ W) => ?_) ?_
      · skip
        go_simp
        exact (HHI.out W).mono fun e w9 h9 => ⟨h9.1, h9.2 ▸ hW⟩
      try simp only [Act.put, List.setIfInBounds_toArray, List.set_cons_zero, List.set_cons_succ]
      refine qc_take (.int .u64 lo) (by rfl) (fun W (hW : Below _ _ W) => ?_) ?_
      · skip
        go_simp
      try simp only [Act.put, List.setIfInBounds_toArray, List.set_cons_zero, List.set_cons_succ]
      refine qc_take (.int .u64 hi) (by rfl) (fun W (hW : Below _ _ W) => ?_) ?_
      · skip
        go_simp
      try simp only [Act.put, List.setIfInBounds_toArray, List.set_cons_zero, List.set_cons_succ]
      refine wpQuiet_nil ?_
      intro v2 hb
      have hr2 := Sn.bk_below HR2.out hb (Sn.bk_lt HR2.out)
      have hB := Sn.below_next HB.out hb HB.out.size
      clear HB HR2 hb
      have HB := Lib.hid hB
      have HR2 := Lib.hid hr2
      clear hB hr2
      clear v HR3 HR4
      rename World => v
      have H1C := Lib.hid (show (#[.int .u64 lo, .int .u64 hi] : Array Value).all (·.oneCell') = true from by simp [Value.oneCell'])
      go_wp2_with (with_reducible refine Sn.store_sp (.tmp 6) (.tmp 34) (w.heap.size + 1 + 1) #[.int .u64 0, .int .u64 0] #[.int .u64 lo, .int .u64 hi] HR2.out rfl rfl rfl rfl rfl rfl H1C.out ?_)
      exact Sn.ret_sp2 (w.heap.size + 1 + 1) #[.int .u64 lo, .int .u64 hi] _ (Sn.bk_row HR2.out _) rfl rfl rfl rfl rfl ⟨rfl, Sn.below_set HB.out (by omega) _⟩
    · intro hrest
      have HREST := Lib.hid hrest
      have HU0 := Lib.hid (show Below v.heap.size v v.drew from (Below.refl _ _).drew)
      clear hrest
      generalize v.drew = u0 at *
      refine headS_ready (rs := [2, 6, 7]) (by kernel_rfl) (by simp) (by rfl) ?_
      refine AllS.cons rfl (fun K hK => ?_) (AllS.cons rfl (fun K hK => ?_) (AllS.cons rfl (fun K hK => ?_) AllS.nil))
      · go_simp
        refine (HX.out u0).mono ?_
        rintro e u1 ⟨rfl, hb⟩
        have hS := Sn.below_next HU0.out hb HU0.out.size
        refine hK.out _ _ hS (fun hHeld => ?_)
        clear hK K hb
        have HU1 := Lib.hid hS
        clear hS 
        try simp only [Act.put, List.setIfInBounds_toArray, List.set_cons_zero, List.set_cons_succ]
        refine headS_ready (rs := [5, 6, 7]) (by kernel_rfl) (by simp) (by rfl) ?_
        refine AllS.cons rfl (fun K hK => ?_) (AllS.cons rfl (fun K hK => ?_) (AllS.cons rfl (fun K hK => ?_) AllS.nil))
        · go_simp
          refine (HY.out u1).mono ?_
          rintro e u2 ⟨rfl, hb⟩
          have hS := Sn.below_next HU1.out hb HU1.out.size
          refine hK.out _ _ hS (fun hHeld => ?_)
          clear hK K hb
          have HU2 := Lib.hid hS
          clear hS 
          try simp only [Act.put, List.setIfInBounds_toArray, List.set_cons_zero, List.set_cons_succ]
          refine headS_ready (rs := [6, 7]) (by kernel_rfl) (by simp) (by rfl) ?_
          refine AllS.cons rfl (fun K hK => ?_) (AllS.cons rfl (fun K hK => ?_) AllS.nil)
          · go_simp
            have hS : Below v.heap.size v (u2.alloc (.cells #[.int .u64 0, .int .u64 0] 24)) := HU2.out.alloc HU2.out.size _
            have hka3 : Sn.Bk (u2.alloc (.cells #[.int .u64 0, .int .u64 0] 24)) u2.heap.size 24 #[.int .u64 0, .int .u64 0] := Sn.bk_new _ _ _
            have hva3 := HU2.out.size
            refine hK.out _ _ hS (fun hHeld => ?_)
            clear hK K
            obtain ⟨a3, hg⟩ : ∃ g, u2.heap.size = g := ⟨_, rfl⟩
            rw [hg] at hka3 hva3
            simp only [hg] at hHeld ⊢
            generalize u2.alloc (.cells #[.int .u64 0, .int .u64 0] 24) = u3 at *
            clear hg
            have HU3 := Lib.hid hS
            have HKa3 := Lib.hid hka3
            clear hS hka3 
            try simp only [Act.put, List.setIfInBounds_toArray, List.set_cons_zero, List.set_cons_succ]
            refine headS_ready (rs := [7]) (by kernel_rfl) (by simp) (by rfl) ?_
            refine AllS.cons rfl (fun K hK => ?_) AllS.nil
            · go_simp
              have hS : Below v.heap.size v (u3.alloc (.cells #[.int .u64 0, .int .u64 0] 24)) := HU3.out.alloc HU3.out.size _
              have hka4 : Sn.Bk (u3.alloc (.cells #[.int .u64 0, .int .u64 0] 24)) u3.heap.size 24 #[.int .u64 0, .int .u64 0] := Sn.bk_new _ _ _
              have hva4 := HU3.out.size
              have hka3 : Sn.Bk (u3.alloc (.cells #[.int .u64 0, .int .u64 0] 24)) a3 24 #[.int .u64 0, .int .u64 0] := Sn.bk_old HKa3.out _
              have hla3a4 := Sn.bk_lt HKa3.out
              refine hK.out _ _ hS (fun hHeld => ?_)
              clear hK K
              obtain ⟨a4, hg⟩ : ∃ g, u3.heap.size = g := ⟨_, rfl⟩
              rw [hg] at hka4 hva4 hla3a4
              simp only [hg] at hHeld ⊢
              generalize u3.alloc (.cells #[.int .u64 0, .int .u64 0] 24) = u4 at *
              clear hg
              have HU4 := Lib.hid hS
              have HKa4 := Lib.hid hka4
              clear HKa3
              have HKa3 := Lib.hid hka3
              clear hS hka4 hka3
              try simp only [Act.put, List.setIfInBounds_toArray, List.set_cons_zero, List.set_cons_succ]
              refine ⟨by kernel_rfl, HREST.out a3 a4 u4 ⟨HU4.out, by omega, by omega, by omega, HKa3.out, HKa4.out⟩⟩
          · go_simp
            have hS : Below v.heap.size v (u2.alloc (.cells #[.int .u64 0, .int .u64 0] 24)) := HU2.out.alloc HU2.out.size _
            have hka5 : Sn.Bk (u2.alloc (.cells #[.int .u64 0, .int .u64 0] 24)) u2.heap.size 24 #[.int .u64 0, .int .u64 0] := Sn.bk_new _ _ _
            have hva5 := HU2.out.size
            refine hK.out _ _ hS (fun hHeld => ?_)
            clear hK K
            obtain ⟨a5, hg⟩ : ∃ g, u2.heap.size = g := ⟨_, rfl⟩
            rw [hg] at hka5 hva5
            simp only [hg] at hHeld ⊢
            generalize u2.alloc (.cells #[.int .u64 0, .int .u64 0] 24) = u5 at *
            clear hg
            have HU5 := Lib.hid hS
            have HKa5 := Lib.hid hka5
            clear hS hka5 
            try simp only [Act.put, List.setIfInBounds_toArray, List.set_cons_zero, List.set_cons_succ]
            refine headS_ready (rs := [6]) (by kernel_rfl) (by simp) (by rfl) ?_
            refine AllS.cons rfl (fun K hK => ?_) AllS.nil
            · go_simp
              have hS : Below v.heap.size v (u5.alloc (.cells #[.int .u64 0, .int .u64 0] 24)) := HU5.out.alloc HU5.out.size _
              have hka6 : Sn.Bk (u5.alloc (.cells #[.int .u64 0, .int .u64 0] 24)) u5.heap.size 24 #[.int .u64 0, .int .u64 0] := Sn.bk_new _ _ _
              have hva6 := HU5.out.size
              have hka5 : Sn.Bk (u5.alloc (.cells #[.int .u64 0, .int .u64 0] 24)) a5 24 #[.int .u64 0, .int .u64 0] := Sn.bk_old HKa5.out _
              have hla5a6 := Sn.bk_lt HKa5.out
              refine hK.out _ _ hS (fun hHeld => ?_)
              clear hK K
              obtain ⟨a6, hg⟩ : ∃ g, u5.heap.size = g := ⟨_, rfl⟩
              rw [hg] at hka6 hva6 hla5a6
              simp only [hg] at hHeld ⊢
              generalize u5.alloc (.cells #[.int .u64 0, .int .u64 0] 24) = u6 at *
              clear hg
              have HU6 := Lib.hid hS
              have HKa6 := Lib.hid hka6
              clear HKa5
              have HKa5 := Lib.hid hka5
              clear hS hka6 hka5
              try simp only [Act.put, List.setIfInBounds_toArray, List.set_cons_zero, List.set_cons_succ]
              refine ⟨by kernel_rfl, HREST.out a6 a5 u6 ⟨HU6.out, by omega, by omega, by omega, HKa6.out, HKa5.out⟩⟩
        · go_simp
          have hS : Below v.heap.size v (u1.alloc (.cells #[.int .u64 0, .int .u64 0] 24)) := HU1.out.alloc HU1.out.size _
          have hka7 : Sn.Bk (u1.alloc (.cells #[.int .u64 0, .int .u64 0] 24)) u1.heap.size 24 #[.int .u64 0, .int .u64 0] := Sn.bk_new _ _ _
          have hva7 := HU1.out.size
          refine hK.out _ _ hS (fun hHeld => ?_)
          clear hK K
          obtain ⟨a7, hg⟩ : ∃ g, u1.heap.size = g := ⟨_, rfl⟩
          rw [hg] at hka7 hva7
          simp only [hg] at hHeld ⊢
          generalize u1.alloc (.cells #[.int .u64 0, .int .u64 0] 24) = u7 at *
          clear hg
          have HU7 := Lib.hid hS
          have HKa7 := Lib.hid hka7
          clear hS hka7 
          try simp only [Act.put, List.setIfInBounds_toArray, List.set_cons_zero, List.set_cons_succ]
          refine headS_ready (rs := [5, 7]) (by kernel_rfl) (by simp) (by rfl) ?_
          refine AllS.cons rfl (fun K hK => ?_) (AllS.cons rfl (fun K hK => ?_) AllS.nil)
          · go_simp
            refine (HY.out u7).mono ?_
            rintro e u8 ⟨rfl, hb⟩
            have hS := Sn.below_next HU7.out hb HU7.out.size
            have hka7 := Sn.bk_below HKa7.out hb (Sn.bk_lt HKa7.out)
            refine hK.out _ _ hS (fun hHeld => ?_)
            clear hK K hb
            have HU8 := Lib.hid hS
            clear HKa7
            have HKa7 := Lib.hid hka7
            clear hS hka7
            try simp only [Act.put, List.setIfInBounds_toArray, List.set_cons_zero, List.set_cons_succ]
            refine headS_ready (rs := [7]) (by kernel_rfl) (by simp) (by rfl) ?_
            refine AllS.cons rfl (fun K hK => ?_) AllS.nil
            · go_simp
              have hS : Below v.heap.size v (u8.alloc (.cells #[.int .u64 0, .int .u64 0] 24)) := HU8.out.alloc HU8.out.size _
              have hka9 : Sn.Bk (u8.alloc (.cells #[.int .u64 0, .int .u64 0] 24)) u8.heap.size 24 #[.int .u64 0, .int .u64 0] := Sn.bk_new _ _ _
              have hva9 := HU8.out.size
              have hka7 : Sn.Bk (u8.alloc (.cells #[.int .u64 0, .int .u64 0] 24)) a7 24 #[.int .u64 0, .int .u64 0] := Sn.bk_old HKa7.out _
              have hla7a9 := Sn.bk_lt HKa7.out
              refine hK.out _ _ hS (fun hHeld => ?_)
              clear hK K
              obtain ⟨a9, hg⟩ : ∃ g, u8.heap.size = g := ⟨_, rfl⟩
              rw [hg] at hka9 hva9 hla7a9
              simp only [hg] at hHeld ⊢
              generalize u8.alloc (.cells #[.int .u64 0, .int .u64 0] 24) = u9 at *
              clear hg
              have HU9 := Lib.hid hS
              have HKa9 := Lib.hid hka9
              clear HKa7
              have HKa7 := Lib.hid hka7
              clear hS hka9 hka7
              try simp only [Act.put, List.setIfInBounds_toArray, List.set_cons_zero, List.set_cons_succ]
              refine ⟨by kernel_rfl, HREST.out a7 a9 u9 ⟨HU9.out, by omega, by omega, by omega, HKa7.out, HKa9.out⟩⟩
          · go_simp
            have hS : Below v.heap.size v (u7.alloc (.cells #[.int .u64 0, .int .u64 0] 24)) := HU7.out.alloc HU7.out.size _
            have hka10 : Sn.Bk (u7.alloc (.cells #[.int .u64 0, .int .u64 0] 24)) u7.heap.size 24 #[.int .u64 0, .int .u64 0] := Sn.bk_new _ _ _
            have hva10 := HU7.out.size
            have hka7 : Sn.Bk (u7.alloc (.cells #[.int .u64 0, .int .u64 0] 24)) a7 24 #[.int .u64 0, .int .u64 0] := Sn.bk_old HKa7.out _
            have hla7a10 := Sn.bk_lt HKa7.out
            refine hK.out _ _ hS (fun hHeld => ?_)
            clear hK K
            obtain ⟨a10, hg⟩ : ∃ g, u7.heap.size = g := ⟨_, rfl⟩
            rw [hg] at hka10 hva10 hla7a10
            simp only [hg] at hHeld ⊢
            generalize u7.alloc (.cells #[.int .u64 0, .int .u64 0] 24) = u10 at *
            clear hg
            have HU10 := Lib.hid hS
            have HKa10 := Lib.hid hka10
            clear HKa7
            have HKa7 := Lib.hid hka7
            clear hS hka10 hka7
            try simp only [Act.put, List.setIfInBounds_toArray, List.set_cons_zero, List.set_cons_succ]
            refine headS_ready (rs := [5]) (by kernel_rfl) (by simp) (by rfl) ?_
            refine AllS.cons rfl (fun K hK => ?_) AllS.nil
            · go_simp
              refine (HY.out u10).mono ?_
              rintro e u11 ⟨rfl, hb⟩
              have hS := Sn.below_next HU10.out hb HU10.out.size
              have hka7 := Sn.bk_below HKa7.out hb (Sn.bk_lt HKa7.out)
              have hka10 := Sn.bk_below HKa10.out hb (Sn.bk_lt HKa10.out)
              refine hK.out _ _ hS (fun hHeld => ?_)
              clear hK K hb
              have HU11 := Lib.hid hS
              clear HKa7 HKa10
              have HKa7 := Lib.hid hka7
              have HKa10 := Lib.hid hka10
              clear hS hka7 hka10
              try simp only [Act.put, List.setIfInBounds_toArray, List.set_cons_zero, List.set_cons_succ]
              refine ⟨by kernel_rfl, HREST.out a7 a10 u11 ⟨HU11.out, by omega, by omega, by omega, HKa7.out, HKa10.out⟩⟩
        · go_simp
          have hS : Below v.heap.size v (u1.alloc (.cells #[.int .u64 0, .int .u64 0] 24)) := HU1.out.alloc HU1.out.size _
          have hka12 : Sn.Bk (u1.alloc (.cells #[.int .u64 0, .int .u64 0] 24)) u1.heap.size 24 #[.int .u64 0, .int .u64 0] := Sn.bk_new _ _ _
          have hva12 := HU1.out.size
          refine hK.out _ _ hS (fun hHeld => ?_)
          clear hK K
          obtain ⟨a12, hg⟩ : ∃ g, u1.heap.size = g := ⟨_, rfl⟩
          rw [hg] at hka12 hva12
          simp only [hg] at hHeld ⊢
          generalize u1.alloc (.cells #[.int .u64 0, .int .u64 0] 24) = u12 at *
          clear hg
          have HU12 := Lib.hid hS
          have HKa12 := Lib.hid hka12
          clear hS hka12 
          try simp only [Act.put, List.setIfInBounds_toArray, List.set_cons_zero, List.set_cons_succ]
          refine headS_ready (rs := [5, 6]) (by kernel_rfl) (by simp) (by rfl) ?_
          refine AllS.cons rfl (fun K hK => ?_) (AllS.cons rfl (fun K hK => ?_) AllS.nil)
          · go_simp
            refine (HY.out u12).mono ?_
            rintro e u13 ⟨rfl, hb⟩
            have hS := Sn.below_next HU12.out hb HU12.out.size
            have hka12 := Sn.bk_below HKa12.out hb (Sn.bk_lt HKa12.out)
            refine hK.out _ _ hS (fun hHeld => ?_)
            clear hK K hb
            have HU13 := Lib.hid hS
            clear HKa12
            have HKa12 := Lib.hid hka12
            clear hS hka12
            try simp only [Act.put, List.setIfInBounds_toArray, List.set_cons_zero, List.set_cons_succ]
            refine headS_ready (rs := [6]) (by kernel_rfl) (by simp) (by rfl) ?_
            refine AllS.cons rfl (fun K hK => ?_) AllS.nil
            · go_simp
              have hS : Below v.heap.size v (u13.alloc (.cells #[.int .u64 0, .int .u64 0] 24)) := HU13.out.alloc HU13.out.size _
              have hka14 : Sn.Bk (u13.alloc (.cells #[.int .u64 0, .int .u64 0] 24)) u13.heap.size 24 #[.int .u64 0, .int .u64 0] := Sn.bk_new _ _ _
              have hva14 := HU13.out.size
              have hka12 : Sn.Bk (u13.alloc (.cells #[.int .u64 0, .int .u64 0] 24)) a12 24 #[.int .u64 0, .int .u64 0] := Sn.bk_old HKa12.out _
              have hla12a14 := Sn.bk_lt HKa12.out
              refine hK.out _ _ hS (fun hHeld => ?_)
              clear hK K
              obtain ⟨a14, hg⟩ : ∃ g, u13.heap.size = g := ⟨_, rfl⟩
              rw [hg] at hka14 hva14 hla12a14
              simp only [hg] at hHeld ⊢
              generalize u13.alloc (.cells #[.int .u64 0, .int .u64 0] 24) = u14 at *
              clear hg
              have HU14 := Lib.hid hS
              have HKa14 := Lib.hid hka14
              clear HKa12
              have HKa12 := Lib.hid hka12
              clear hS hka14 hka12
              try simp only [Act.put, List.setIfInBounds_toArray, List.set_cons_zero, List.set_cons_succ]
              refine ⟨by kernel_rfl, HREST.out a14 a12 u14 ⟨HU14.out, by omega, by omega, by omega, HKa14.out, HKa12.out⟩⟩
          · go_simp
            have hS : Below v.heap.size v (u12.alloc (.cells #[.int .u64 0, .int .u64 0] 24)) := HU12.out.alloc HU12.out.size _
            have hka15 : Sn.Bk (u12.alloc (.cells #[.int .u64 0, .int .u64 0] 24)) u12.heap.size 24 #[.int .u64 0, .int .u64 0] := Sn.bk_new _ _ _
            have hva15 := HU12.out.size
            have hka12 : Sn.Bk (u12.alloc (.cells #[.int .u64 0, .int .u64 0] 24)) a12 24 #[.int .u64 0, .int .u64 0] := Sn.bk_old HKa12.out _
            have hla12a15 := Sn.bk_lt HKa12.out
            refine hK.out _ _ hS (fun hHeld => ?_)
            clear hK K
            obtain ⟨a15, hg⟩ : ∃ g, u12.heap.size = g := ⟨_, rfl⟩
            rw [hg] at hka15 hva15 hla12a15
            simp only [hg] at hHeld ⊢
            generalize u12.alloc (.cells #[.int .u64 0, .int .u64 0] 24) = u15 at *
            clear hg
            have HU15 := Lib.hid hS
            have HKa15 := Lib.hid hka15
            clear HKa12
            have HKa12 := Lib.hid hka12
            clear hS hka15 hka12
            try simp only [Act.put, List.setIfInBounds_toArray, List.set_cons_zero, List.set_cons_succ]
            refine headS_ready (rs := [5]) (by kernel_rfl) (by simp) (by rfl) ?_
            refine AllS.cons rfl (fun K hK => ?_) AllS.nil
            · go_simp
              refine (HY.out u15).mono ?_
              rintro e u16 ⟨rfl, hb⟩
              have hS := Sn.below_next HU15.out hb HU15.out.size
              have hka12 := Sn.bk_below HKa12.out hb (Sn.bk_lt HKa12.out)
              have hka15 := Sn.bk_below HKa15.out hb (Sn.bk_lt HKa15.out)
              refine hK.out _ _ hS (fun hHeld => ?_)
              clear hK K hb
              have HU16 := Lib.hid hS
              clear HKa12 HKa15
              have HKa12 := Lib.hid hka12
              have HKa15 := Lib.hid hka15
              clear hS hka12 hka15
              try simp only [Act.put, List.setIfInBounds_toArray, List.set_cons_zero, List.set_cons_succ]
              refine ⟨by kernel_rfl, HREST.out a15 a12 u16 ⟨HU16.out, by omega, by omega, by omega, HKa15.out, HKa12.out⟩⟩
      · go_simp
        have hS : Below v.heap.size v (u0.alloc (.cells #[.int .u64 0, .int .u64 0] 24)) := HU0.out.alloc HU0.out.size _
        have hka17 : Sn.Bk (u0.alloc (.cells #[.int .u64 0, .int .u64 0] 24)) u0.heap.size 24 #[.int .u64 0, .int .u64 0] := Sn.bk_new _ _ _
        have hva17 := HU0.out.size
        refine hK.out _ _ hS (fun hHeld => ?_)
        clear hK K
        obtain ⟨a17, hg⟩ : ∃ g, u0.heap.size = g := ⟨_, rfl⟩
        rw [hg] at hka17 hva17
        simp only [hg] at hHeld ⊢
        generalize u0.alloc (.cells #[.int .u64 0, .int .u64 0] 24) = u17 at *
        clear hg
        have HU17 := Lib.hid hS
        have HKa17 := Lib.hid hka17
        clear hS hka17 
        try simp only [Act.put, List.setIfInBounds_toArray, List.set_cons_zero, List.set_cons_succ]
        refine headS_ready (rs := [2, 7]) (by kernel_rfl) (by simp) (by rfl) ?_
        refine AllS.cons rfl (fun K hK => ?_) (AllS.cons rfl (fun K hK => ?_) AllS.nil)
        · go_simp
          refine (HX.out u17).mono ?_
          rintro e u18 ⟨rfl, hb⟩
          have hS := Sn.below_next HU17.out hb HU17.out.size
          have hka17 := Sn.bk_below HKa17.out hb (Sn.bk_lt HKa17.out)
          refine hK.out _ _ hS (fun hHeld => ?_)
          clear hK K hb
          have HU18 := Lib.hid hS
          clear HKa17
          have HKa17 := Lib.hid hka17
          clear hS hka17
          try simp only [Act.put, List.setIfInBounds_toArray, List.set_cons_zero, List.set_cons_succ]
          refine headS_ready (rs := [5, 7]) (by kernel_rfl) (by simp) (by rfl) ?_
          refine AllS.cons rfl (fun K hK => ?_) (AllS.cons rfl (fun K hK => ?_) AllS.nil)
          · go_simp
            refine (HY.out u18).mono ?_
            rintro e u19 ⟨rfl, hb⟩
            have hS := Sn.below_next HU18.out hb HU18.out.size
            have hka17 := Sn.bk_below HKa17.out hb (Sn.bk_lt HKa17.out)
            refine hK.out _ _ hS (fun hHeld => ?_)
            clear hK K hb
            have HU19 := Lib.hid hS
            clear HKa17
            have HKa17 := Lib.hid hka17
            clear hS hka17
            try simp only [Act.put, List.setIfInBounds_toArray, List.set_cons_zero, List.set_cons_succ]
            refine headS_ready (rs := [7]) (by kernel_rfl) (by simp) (by rfl) ?_
            refine AllS.cons rfl (fun K hK => ?_) AllS.nil
            · go_simp
              have hS : Below v.heap.size v (u19.alloc (.cells #[.int .u64 0, .int .u64 0] 24)) := HU19.out.alloc HU19.out.size _
              have hka20 : Sn.Bk (u19.alloc (.cells #[.int .u64 0, .int .u64 0] 24)) u19.heap.size 24 #[.int .u64 0, .int .u64 0] := Sn.bk_new _ _ _
              have hva20 := HU19.out.size
              have hka17 : Sn.Bk (u19.alloc (.cells #[.int .u64 0, .int .u64 0] 24)) a17 24 #[.int .u64 0, .int .u64 0] := Sn.bk_old HKa17.out _
              have hla17a20 := Sn.bk_lt HKa17.out
              refine hK.out _ _ hS (fun hHeld => ?_)
              clear hK K
              obtain ⟨a20, hg⟩ : ∃ g, u19.heap.size = g := ⟨_, rfl⟩
              rw [hg] at hka20 hva20 hla17a20
              simp only [hg] at hHeld ⊢
              generalize u19.alloc (.cells #[.int .u64 0, .int .u64 0] 24) = u20 at *
              clear hg
              have HU20 := Lib.hid hS
              have HKa20 := Lib.hid hka20
              clear HKa17
              have HKa17 := Lib.hid hka17
              clear hS hka20 hka17
              try simp only [Act.put, List.setIfInBounds_toArray, List.set_cons_zero, List.set_cons_succ]
              refine ⟨by kernel_rfl, HREST.out a17 a20 u20 ⟨HU20.out, by omega, by omega, by omega, HKa17.out, HKa20.out⟩⟩
          · go_simp
            have hS : Below v.heap.size v (u18.alloc (.cells #[.int .u64 0, .int .u64 0] 24)) := HU18.out.alloc HU18.out.size _
            have hka21 : Sn.Bk (u18.alloc (.cells #[.int .u64 0, .int .u64 0] 24)) u18.heap.size 24 #[.int .u64 0, .int .u64 0] := Sn.bk_new _ _ _
            have hva21 := HU18.out.size
            have hka17 : Sn.Bk (u18.alloc (.cells #[.int .u64 0, .int .u64 0] 24)) a17 24 #[.int .u64 0, .int .u64 0] := Sn.bk_old HKa17.out _
            have hla17a21 := Sn.bk_lt HKa17.out
            refine hK.out _ _ hS (fun hHeld => ?_)
            clear hK K
            obtain ⟨a21, hg⟩ : ∃ g, u18.heap.size = g := ⟨_, rfl⟩
            rw [hg] at hka21 hva21 hla17a21
            simp only [hg] at hHeld ⊢
            generalize u18.alloc (.cells #[.int .u64 0, .int .u64 0] 24) = u21 at *
            clear hg
            have HU21 := Lib.hid hS
            have HKa21 := Lib.hid hka21
            clear HKa17
            have HKa17 := Lib.hid hka17
            clear hS hka21 hka17
            try simp only [Act.put, List.setIfInBounds_toArray, List.set_cons_zero, List.set_cons_succ]
            refine headS_ready (rs := [5]) (by kernel_rfl) (by simp) (by rfl) ?_
            refine AllS.cons rfl (fun K hK => ?_) AllS.nil
            · go_simp
              refine (HY.out u21).mono ?_
              rintro e u22 ⟨rfl, hb⟩
              have hS := Sn.below_next HU21.out hb HU21.out.size
              have hka17 := Sn.bk_below HKa17.out hb (Sn.bk_lt HKa17.out)
              have hka21 := Sn.bk_below HKa21.out hb (Sn.bk_lt HKa21.out)
              refine hK.out _ _ hS (fun hHeld => ?_)
              clear hK K hb
              have HU22 := Lib.hid hS
              clear HKa17 HKa21
              have HKa17 := Lib.hid hka17
              have HKa21 := Lib.hid hka21
              clear hS hka17 hka21
              try simp only [Act.put, List.setIfInBounds_toArray, List.set_cons_zero, List.set_cons_succ]
              refine ⟨by kernel_rfl, HREST.out a17 a21 u22 ⟨HU22.out, by omega, by omega, by omega, HKa17.out, HKa21.out⟩⟩
        · go_simp
          have hS : Below v.heap.size v (u17.alloc (.cells #[.int .u64 0, .int .u64 0] 24)) := HU17.out.alloc HU17.out.size _
          have hka23 : Sn.Bk (u17.alloc (.cells #[.int .u64 0, .int .u64 0] 24)) u17.heap.size 24 #[.int .u64 0, .int .u64 0] := Sn.bk_new _ _ _
          have hva23 := HU17.out.size
          have hka17 : Sn.Bk (u17.alloc (.cells #[.int .u64 0, .int .u64 0] 24)) a17 24 #[.int .u64 0, .int .u64 0] := Sn.bk_old HKa17.out _
          have hla17a23 := Sn.bk_lt HKa17.out
          refine hK.out _ _ hS (fun hHeld => ?_)
          clear hK K
          obtain ⟨a23, hg⟩ : ∃ g, u17.heap.size = g := ⟨_, rfl⟩
          rw [hg] at hka23 hva23 hla17a23
          simp only [hg] at hHeld ⊢
          generalize u17.alloc (.cells #[.int .u64 0, .int .u64 0] 24) = u23 at *
          clear hg
          have HU23 := Lib.hid hS
          have HKa23 := Lib.hid hka23
          clear HKa17
          have HKa17 := Lib.hid hka17
          clear hS hka23 hka17
          try simp only [Act.put, List.setIfInBounds_toArray, List.set_cons_zero, List.set_cons_succ]
          refine headS_ready (rs := [2]) (by kernel_rfl) (by simp) (by rfl) ?_
          refine AllS.cons rfl (fun K hK => ?_) AllS.nil
          · go_simp
            refine (HX.out u23).mono ?_
            rintro e u24 ⟨rfl, hb⟩
            have hS := Sn.below_next HU23.out hb HU23.out.size
            have hka17 := Sn.bk_below HKa17.out hb (Sn.bk_lt HKa17.out)
            have hka23 := Sn.bk_below HKa23.out hb (Sn.bk_lt HKa23.out)
            refine hK.out _ _ hS (fun hHeld => ?_)
            clear hK K hb
            have HU24 := Lib.hid hS
            clear HKa17 HKa23
            have HKa17 := Lib.hid hka17
            have HKa23 := Lib.hid hka23
            clear hS hka17 hka23
            try simp only [Act.put, List.setIfInBounds_toArray, List.set_cons_zero, List.set_cons_succ]
            refine headS_ready (rs := [5]) (by kernel_rfl) (by simp) (by rfl) ?_
            refine AllS.cons rfl (fun K hK => ?_) AllS.nil
            · go_simp
              refine (HY.out u24).mono ?_
              rintro e u25 ⟨rfl, hb⟩
              have hS := Sn.below_next HU24.out hb HU24.out.size
              have hka17 := Sn.bk_below HKa17.out hb (Sn.bk_lt HKa17.out)
              have hka23 := Sn.bk_below HKa23.out hb (Sn.bk_lt HKa23.out)
              refine hK.out _ _ hS (fun hHeld => ?_)
              clear hK K hb
              have HU25 := Lib.hid hS
              clear HKa17 HKa23
              have HKa17 := Lib.hid hka17
              have HKa23 := Lib.hid hka23
              clear hS hka17 hka23
              try simp only [Act.put, List.setIfInBounds_toArray, List.set_cons_zero, List.set_cons_succ]
              refine ⟨by kernel_rfl, HREST.out a17 a23 u25 ⟨HU25.out, by omega, by omega, by omega, HKa17.out, HKa23.out⟩⟩
      · go_simp
        have hS : Below v.heap.size v (u0.alloc (.cells #[.int .u64 0, .int .u64 0] 24)) := HU0.out.alloc HU0.out.size _
        have hka26 : Sn.Bk (u0.alloc (.cells #[.int .u64 0, .int .u64 0] 24)) u0.heap.size 24 #[.int .u64 0, .int .u64 0] := Sn.bk_new _ _ _
        have hva26 := HU0.out.size
        refine hK.out _ _ hS (fun hHeld => ?_)
        clear hK K
        obtain ⟨a26, hg⟩ : ∃ g, u0.heap.size = g := ⟨_, rfl⟩
        rw [hg] at hka26 hva26
        simp only [hg] at hHeld ⊢
        generalize u0.alloc (.cells #[.int .u64 0, .int .u64 0] 24) = u26 at *
        clear hg
        have HU26 := Lib.hid hS
        have HKa26 := Lib.hid hka26
        clear hS hka26 
        try simp only [Act.put, List.setIfInBounds_toArray, List.set_cons_zero, List.set_cons_succ]
        refine headS_ready (rs := [2, 6]) (by kernel_rfl) (by simp) (by rfl) ?_
        refine AllS.cons rfl (fun K hK => ?_) (AllS.cons rfl (fun K hK => ?_) AllS.nil)
        · go_simp
          refine (HX.out u26).mono ?_
          rintro e u27 ⟨rfl, hb⟩
          have hS := Sn.below_next HU26.out hb HU26.out.size
          have hka26 := Sn.bk_below HKa26.out hb (Sn.bk_lt HKa26.out)
          refine hK.out _ _ hS (fun hHeld => ?_)
          clear hK K hb
          have HU27 := Lib.hid hS
          clear HKa26
          have HKa26 := Lib.hid hka26
          clear hS hka26
          try simp only [Act.put, List.setIfInBounds_toArray, List.set_cons_zero, List.set_cons_succ]
          refine headS_ready (rs := [5, 6]) (by kernel_rfl) (by simp) (by rfl) ?_
          refine AllS.cons rfl (fun K hK => ?_) (AllS.cons rfl (fun K hK => ?_) AllS.nil)
          · go_simp
            refine (HY.out u27).mono ?_
            rintro e u28 ⟨rfl, hb⟩
            have hS := Sn.below_next HU27.out hb HU27.out.size
            have hka26 := Sn.bk_below HKa26.out hb (Sn.bk_lt HKa26.out)
            refine hK.out _ _ hS (fun hHeld => ?_)
            clear hK K hb
            have HU28 := Lib.hid hS
            clear HKa26
            have HKa26 := Lib.hid hka26
            clear hS hka26
            try simp only [Act.put, List.setIfInBounds_toArray, List.set_cons_zero, List.set_cons_succ]
            refine headS_ready (rs := [6]) (by kernel_rfl) (by simp) (by rfl) ?_
            refine AllS.cons rfl (fun K hK => ?_) AllS.nil
            · go_simp
              have hS : Below v.heap.size v (u28.alloc (.cells #[.int .u64 0, .int .u64 0] 24)) := HU28.out.alloc HU28.out.size _
              have hka29 : Sn.Bk (u28.alloc (.cells #[.int .u64 0, .int .u64 0] 24)) u28.heap.size 24 #[.int .u64 0, .int .u64 0] := Sn.bk_new _ _ _
              have hva29 := HU28.out.size
              have hka26 : Sn.Bk (u28.alloc (.cells #[.int .u64 0, .int .u64 0] 24)) a26 24 #[.int .u64 0, .int .u64 0] := Sn.bk_old HKa26.out _
              have hla26a29 := Sn.bk_lt HKa26.out
              refine hK.out _ _ hS (fun hHeld => ?_)
              clear hK K
              obtain ⟨a29, hg⟩ : ∃ g, u28.heap.size = g := ⟨_, rfl⟩
              rw [hg] at hka29 hva29 hla26a29
              simp only [hg] at hHeld ⊢
              generalize u28.alloc (.cells #[.int .u64 0, .int .u64 0] 24) = u29 at *
              clear hg
              have HU29 := Lib.hid hS
              have HKa29 := Lib.hid hka29
              clear HKa26
              have HKa26 := Lib.hid hka26
              clear hS hka29 hka26
              try simp only [Act.put, List.setIfInBounds_toArray, List.set_cons_zero, List.set_cons_succ]
              refine ⟨by kernel_rfl, HREST.out a29 a26 u29 ⟨HU29.out, by omega, by omega, by omega, HKa29.out, HKa26.out⟩⟩
          · go_simp
            have hS : Below v.heap.size v (u27.alloc (.cells #[.int .u64 0, .int .u64 0] 24)) := HU27.out.alloc HU27.out.size _
            have hka30 : Sn.Bk (u27.alloc (.cells #[.int .u64 0, .int .u64 0] 24)) u27.heap.size 24 #[.int .u64 0, .int .u64 0] := Sn.bk_new _ _ _
            have hva30 := HU27.out.size
            have hka26 : Sn.Bk (u27.alloc (.cells #[.int .u64 0, .int .u64 0] 24)) a26 24 #[.int .u64 0, .int .u64 0] := Sn.bk_old HKa26.out _
            have hla26a30 := Sn.bk_lt HKa26.out
            refine hK.out _ _ hS (fun hHeld => ?_)
            clear hK K
            obtain ⟨a30, hg⟩ : ∃ g, u27.heap.size = g := ⟨_, rfl⟩
            rw [hg] at hka30 hva30 hla26a30
            simp only [hg] at hHeld ⊢
            generalize u27.alloc (.cells #[.int .u64 0, .int .u64 0] 24) = u30 at *
            clear hg
            have HU30 := Lib.hid hS
            have HKa30 := Lib.hid hka30
            clear HKa26
            have HKa26 := Lib.hid hka26
            clear hS hka30 hka26
            try simp only [Act.put, List.setIfInBounds_toArray, List.set_cons_zero, List.set_cons_succ]
            refine headS_ready (rs := [5]) (by kernel_rfl) (by simp) (by rfl) ?_
            refine AllS.cons rfl (fun K hK => ?_) AllS.nil
            · go_simp
              refine (HY.out u30).mono ?_
              rintro e u31 ⟨rfl, hb⟩
              have hS := Sn.below_next HU30.out hb HU30.out.size
              have hka26 := Sn.bk_below HKa26.out hb (Sn.bk_lt HKa26.out)
              have hka30 := Sn.bk_below HKa30.out hb (Sn.bk_lt HKa30.out)
              refine hK.out _ _ hS (fun hHeld => ?_)
              clear hK K hb
              have HU31 := Lib.hid hS
              clear HKa26 HKa30
              have HKa26 := Lib.hid hka26
              have HKa30 := Lib.hid hka30
              clear hS hka26 hka30
              try simp only [Act.put, List.setIfInBounds_toArray, List.set_cons_zero, List.set_cons_succ]
              refine ⟨by kernel_rfl, HREST.out a30 a26 u31 ⟨HU31.out, by omega, by omega, by omega, HKa30.out, HKa26.out⟩⟩
        · go_simp
          have hS : Below v.heap.size v (u26.alloc (.cells #[.int .u64 0, .int .u64 0] 24)) := HU26.out.alloc HU26.out.size _
          have hka32 : Sn.Bk (u26.alloc (.cells #[.int .u64 0, .int .u64 0] 24)) u26.heap.size 24 #[.int .u64 0, .int .u64 0] := Sn.bk_new _ _ _
          have hva32 := HU26.out.size
          have hka26 : Sn.Bk (u26.alloc (.cells #[.int .u64 0, .int .u64 0] 24)) a26 24 #[.int .u64 0, .int .u64 0] := Sn.bk_old HKa26.out _
          have hla26a32 := Sn.bk_lt HKa26.out
          refine hK.out _ _ hS (fun hHeld => ?_)
          clear hK K
          obtain ⟨a32, hg⟩ : ∃ g, u26.heap.size = g := ⟨_, rfl⟩
          rw [hg] at hka32 hva32 hla26a32
          simp only [hg] at hHeld ⊢
          generalize u26.alloc (.cells #[.int .u64 0, .int .u64 0] 24) = u32 at *
          clear hg
          have HU32 := Lib.hid hS
          have HKa32 := Lib.hid hka32
          clear HKa26
          have HKa26 := Lib.hid hka26
          clear hS hka32 hka26
          try simp only [Act.put, List.setIfInBounds_toArray, List.set_cons_zero, List.set_cons_succ]
          refine headS_ready (rs := [2]) (by kernel_rfl) (by simp) (by rfl) ?_
          refine AllS.cons rfl (fun K hK => ?_) AllS.nil
          · go_simp
            refine (HX.out u32).mono ?_
            rintro e u33 ⟨rfl, hb⟩
            have hS := Sn.below_next HU32.out hb HU32.out.size
            have hka26 := Sn.bk_below HKa26.out hb (Sn.bk_lt HKa26.out)
            have hka32 := Sn.bk_below HKa32.out hb (Sn.bk_lt HKa32.out)
            refine hK.out _ _ hS (fun hHeld => ?_)
            clear hK K hb
            have HU33 := Lib.hid hS
            clear HKa26 HKa32
            have HKa26 := Lib.hid hka26
            have HKa32 := Lib.hid hka32
            clear hS hka26 hka32
            try simp only [Act.put, List.setIfInBounds_toArray, List.set_cons_zero, List.set_cons_succ]
            refine headS_ready (rs := [5]) (by kernel_rfl) (by simp) (by rfl) ?_
            refine AllS.cons rfl (fun K hK => ?_) AllS.nil
            · go_simp
              refine (HY.out u33).mono ?_
              rintro e u34 ⟨rfl, hb⟩
              have hS := Sn.below_next HU33.out hb HU33.out.size
              have hka26 := Sn.bk_below HKa26.out hb (Sn.bk_lt HKa26.out)
              have hka32 := Sn.bk_below HKa32.out hb (Sn.bk_lt HKa32.out)
              refine hK.out _ _ hS (fun hHeld => ?_)
              clear hK K hb
              have HU34 := Lib.hid hS
              clear HKa26 HKa32
              have HKa26 := Lib.hid hka26
              have HKa32 := Lib.hid hka32
              clear hS hka26 hka32
              try simp only [Act.put, List.setIfInBounds_toArray, List.set_cons_zero, List.set_cons_succ]
              refine ⟨by kernel_rfl, HREST.out a32 a26 u34 ⟨HU34.out, by omega, by omega, by omega, HKa32.out, HKa26.out⟩⟩

set_option maxHeartbeats 12800000 in
theorem rjoin_any (a : Int) (x y : Sn.S) (w : World) :
    Calls Try.prog 18 #[.int .i64 a, Sn.v x, Sn.v y] w fun e w' => e = .returned (Sn.v (Sn.join a x y)) ∧ Below w.heap.size w w' := by
  unfold Sn.join
  obtain ⟨x1, x2⟩ := x
  obtain ⟨y1, y2⟩ := y
  have HX := Lib.hid (fun W => rright_any a (x1, x2) W)
  have HY := Lib.hid (fun W => rright_any a (y1, y2) W)
  generalize Sn.rt a (x1, x2) = rx at *
  generalize Sn.rt a (y1, y2) = ry at *
  obtain ⟨p1, p2⟩ := rx
  obtain ⟨q1, q2⟩ := ry
  dsimp only at *
  obtain ⟨lo, hlo⟩ : ∃ t, min p1 q1 = t := ⟨_, rfl⟩
  obtain ⟨hi, hhi⟩ : ∃ t, max p2 q2 = t := ⟨_, rfl⟩
  have hl := fun W => rsmall_any p1 q1 W
  have hh := fun W => rgreat_any p2 q2 W
  simp only [hlo] at hl
  simp only [hhi] at hh
  have HLO := Lib.hid hl
  have HHI := Lib.hid hh
  rw [hlo, hhi]
  clear hl hh hlo hhi
  show Calls Try.prog 18 #[.int .i64 a, .agg #[.int .u64 x1, .int .u64 x2], .agg #[.int .u64 y1, .int .u64 y2]] w _
  go_enter Try.func18, Try.ntmps18
  go_upto_region 1 with (fail)
  have hB : Below w.heap.size w (((w.alloc (.cells #[.int .u64 x1, .int .u64 x2] 24)).alloc (.cells #[.int .u64 y1, .int .u64 y2] 24)).alloc (.cells #[.int .u64 0, .int .u64 0] 24)) := ((((Below.refl _ _).alloc (Nat.le_refl _) _).alloc (by simp) _).alloc (by simp; omega) _)
  have hr0 : Sn.Bk (((w.alloc (.cells #[.int .u64 x1, .int .u64 x2] 24)).alloc (.cells #[.int .u64 y1, .int .u64 y2] 24)).alloc (.cells #[.int .u64 0, .int .u64 0] 24)) (w.heap.size) 24 #[.int .u64 x1, .int .u64 x2] := Sn.bk_old (Sn.bk_old (Sn.bk_new _ _ _) _) _
  have hr1 : Sn.Bk (((w.alloc (.cells #[.int .u64 x1, .int .u64 x2] 24)).alloc (.cells #[.int .u64 y1, .int .u64 y2] 24)).alloc (.cells #[.int .u64 0, .int .u64 0] 24)) (w.heap.size + 1) 24 #[.int .u64 y1, .int .u64 y2] := Sn.bk_old (Sn.bk_at (by simp)) _
  have hr2 : Sn.Bk (((w.alloc (.cells #[.int .u64 x1, .int .u64 x2] 24)).alloc (.cells #[.int .u64 y1, .int .u64 y2] 24)).alloc (.cells #[.int .u64 0, .int .u64 0] 24)) (w.heap.size + 1 + 1) 24 #[.int .u64 0, .int .u64 0] := Sn.bk_at (by simp)
  generalize (((w.alloc (.cells #[.int .u64 x1, .int .u64 x2] 24)).alloc (.cells #[.int .u64 y1, .int .u64 y2] 24)).alloc (.cells #[.int .u64 0, .int .u64 0] 24)) = v at *
  have HB := Lib.hid hB
  have HR0 := Lib.hid hr0
  have HR1 := Lib.hid hr1
  have HR2 := Lib.hid hr2
  clear hB hr0 hr1 hr2
  refine held_tail (S := fun W => Below v.heap.size v W) 8 (by kernel_rfl) (by simp) (Below.refl _ _).drew (fun hHeld => ?_)
  refine headS_take (i := 0) (v := .int .i64 a) rfl (by kernel_rfl) (fun _ _ _ h => h) (Or.inl ⟨by rfl, fun W hW => ?_⟩) hHeld ?_
  · (try dsimp only at hW)
    go_simp
  try simp only [Act.put, List.setIfInBounds_toArray, List.set_cons_zero, List.set_cons_succ]
  refine headS_take (i := 1) (v := .agg #[.int .u64 x1, .int .u64 x2]) rfl (by kernel_rfl) (fun _ _ _ h => h) (Or.inl ⟨by rfl, fun W hW => ?_⟩) hHeld ?_
  · (try dsimp only at hW)
    obtain ⟨y0, y1⟩ := Sn.c2 HR0.out hW
    go_simp
  try simp only [Act.put, List.setIfInBounds_toArray, List.set_cons_zero, List.set_cons_succ]
  refine headS_take (i := 3) (v := .int .i64 a) rfl (by kernel_rfl) (fun _ _ _ h => h) (Or.inl ⟨by rfl, fun W hW => ?_⟩) hHeld ?_
  · (try dsimp only at hW)
    go_simp
  try simp only [Act.put, List.setIfInBounds_toArray, List.set_cons_zero, List.set_cons_succ]
  refine headS_take (i := 4) (v := .agg #[.int .u64 y1, .int .u64 y2]) rfl (by kernel_rfl) (fun _ _ _ h => h) (Or.inl ⟨by rfl, fun W hW => ?_⟩) hHeld ?_
  · (try dsimp only at hW)
    obtain ⟨y0, y1⟩ := Sn.c2 HR1.out hW
    go_simp
  try simp only [Act.put, List.setIfInBounds_toArray, List.set_cons_zero, List.set_cons_succ]
  refine headS_rest (fun b c W => Below v.heap.size v W ∧ b ≠ c ∧ v.heap.size ≤ b ∧ v.heap.size ≤ c ∧ Sn.Bk W b 24 #[.int .u64 0, .int .u64 0] ∧ Sn.Bk W c 24 #[.int .u64 0, .int .u64 0]) (fun b c => #[.int .i64 a, .agg #[.int .u64 x1, .int .u64 x2], .agg #[.int .u64 y1, .int .u64 y2], undef, .pointer (some ⟨w.heap.size, 0, none⟩), .pointer (some ⟨w.heap.size + 1, 0, none⟩), .pointer (some ⟨w.heap.size + 1 + 1, 0, none⟩), .pointer (some ⟨b, 0, none⟩), .pointer (some ⟨c, 0, none⟩), .int .i64 a, .agg #[.int .u64 x1, .int .u64 x2], .agg #[.int .u64 p1, .int .u64 p2], .int .i64 a, .agg #[.int .u64 y1, .int .u64 y2], .agg #[.int .u64 q1, .int .u64 q2], undef, undef, undef, undef, undef, undef, undef, undef, undef, undef, undef]) ?_ ?_
  · rintro b c u ⟨hjb, hbc, hvb, hvc, hkb, hkc⟩
    simp only [List.drop_succ_cons, List.drop_zero]
    clear hHeld
    clear HR0 HR1
    have hbw := HB.out.size
    have l2 := Sn.bk_lt HR2.out
    have hr2 := Sn.bk_below HR2.out hjb (Sn.bk_lt HR2.out)
    have hB := Sn.below_next HB.out hjb HB.out.size
    clear HB HR2 hjb
    have HB := Lib.hid hB
    have HR2 := Lib.hid hr2
    clear hB hr2
    have H1C := Lib.hid (show (#[.int .u64 p1, .int .u64 p2] : Array Value).all (·.oneCell') = true by simp [Value.oneCell'])
    have H2C := Lib.hid (show (#[.int .u64 q1, .int .u64 q2] : Array Value).all (·.oneCell') = true by simp [Value.oneCell'])
    refine Sn.store_sp (.tmp 7) (.tmp 11) b #[.int .u64 0, .int .u64 0] #[.int .u64 p1, .int .u64 p2] hkb rfl rfl rfl rfl rfl rfl H1C.out ?_
    refine Sn.store_sp (.tmp 8) (.tmp 14) c #[.int .u64 0, .int .u64 0] #[.int .u64 q1, .int .u64 q2] (Sn.bk_row_other hkc (by omega) _) rfl rfl rfl rfl rfl rfl H2C.out ?_
    have hB : Below w.heap.size w ((u.setRow b #[.int .u64 p1, .int .u64 p2]).setRow c #[.int .u64 q1, .int .u64 q2]) := Sn.below_set (Sn.below_set HB.out (by omega) _) (by omega) _
    have hr2 : Sn.Bk ((u.setRow b #[.int .u64 p1, .int .u64 p2]).setRow c #[.int .u64 q1, .int .u64 q2]) (w.heap.size + 1 + 1) 24 #[.int .u64 0, .int .u64 0] := Sn.bk_row_other (Sn.bk_row_other HR2.out (by omega) _) (by omega) _
    have hr3 : Sn.Bk ((u.setRow b #[.int .u64 p1, .int .u64 p2]).setRow c #[.int .u64 q1, .int .u64 q2]) b 24 #[.int .u64 p1, .int .u64 p2] := Sn.bk_row_other (Sn.bk_row hkb _) (by omega) _
    have hr4 : Sn.Bk ((u.setRow b #[.int .u64 p1, .int .u64 p2]).setRow c #[.int .u64 q1, .int .u64 q2]) c 24 #[.int .u64 q1, .int .u64 q2] := Sn.bk_row (Sn.bk_row_other hkc (by omega) _) _
    clear HB HR2 H1C H2C hkb hkc hbc hvb hvc hbw l2
    generalize ((u.setRow b #[.int .u64 p1, .int .u64 p2]).setRow c #[.int .u64 q1, .int .u64 q2]) = v3 at *
    have HB := Lib.hid hB
    have HR2 := Lib.hid hr2
    have HR3 := Lib.hid hr3
    have HR4 := Lib.hid hr4
    clear hB hr2 hr3 hr4
    clear v u
    rename World => v
    go_wp2_with fail
    refine qc_tail (fun W => Below v.heap.size v W) 11 (by kernel_rfl) (by kernel_rfl) (Below.refl _ _).drew ?_
    simp only [List.take_succ_cons, List.take_zero, List.drop_succ_cons, List.drop_zero]
    refine qc_take (.pointer (some ⟨b, 0, none⟩)) (by rfl) (fun W (hW : Below _ _ W) => ?_) ?_
    · skip
      go_simp
    try simp only [Act.put, List.setIfInBounds_toArray, List.set_cons_zero, List.set_cons_succ]
    refine qc_take (.int .u64 p1) (by rfl) (fun W (hW : Below _ _ W) => ?_) ?_
    · skip
      obtain ⟨y0, y1⟩ := Sn.c2 HR3.out hW
      go_simp
    try simp only [Act.put, List.setIfInBounds_toArray, List.set_cons_zero, List.set_cons_succ]
    refine qc_take (.pointer (some ⟨c, 0, none⟩)) (by rfl) (fun W (hW : Below _ _ W) => ?_) ?_
    · skip
      go_simp
    try simp only [Act.put, List.setIfInBounds_toArray, List.set_cons_zero, List.set_cons_succ]
    refine qc_take (.int .u64 q1) (by rfl) (fun W (hW : Below _ _ W) => ?_) ?_
    · skip
      obtain ⟨y0, y1⟩ := Sn.c2 HR4.out hW
      go_simp
    try simp only [Act.put, List.setIfInBounds_toArray, List.set_cons_zero, List.set_cons_succ]
    refine qc_take (.int .u64 lo) (by rfl) (fun W (hW : Below _ _ W) => ?_) ?_
    · skip
      go_simp
      exact (HLO.out W).mono fun e w9 h9 => ⟨h9.1, h9.2 ▸ hW⟩
    try simp only [Act.put, List.setIfInBounds_toArray, List.set_cons_zero, List.set_cons_succ]
    refine qc_take (.pointer (some ⟨b, 1, none⟩)) (by rfl) (fun W (hW : Below _ _ W) => ?_) ?_
    · skip
      go_simp
    try simp only [Act.put, List.setIfInBounds_toArray, List.set_cons_zero, List.set_cons_succ]
    refine qc_take (.int .u64 p2) (by rfl) (fun W (hW : Below _ _ W) => ?_) ?_
    · skip
      obtain ⟨y0, y1⟩ := Sn.c2 HR3.out hW
      go_simp
    try simp only [Act.put, List.setIfInBounds_toArray, List.set_cons_zero, List.set_cons_succ]
    refine qc_take (.pointer (some ⟨c, 1, none⟩)) (by rfl) (fun W (hW : Below _ _ W) => ?_) ?_
    · skip
      go_simp
    try simp only [Act.put, List.setIfInBounds_toArray, List.set_cons_zero, List.set_cons_succ]
    refine qc_take (.int .u64 q2) (by rfl) (fun W (hW : Below _ _ W) => ?_) ?_
    · skip
      obtain ⟨y0, y1⟩ := Sn.c2 HR4.out hW
      go_simp
    try simp only [Act.put, List.setIfInBounds_toArray, List.set_cons_zero, List.set_cons_succ]
    refine qc_take (.int .u64 hi) (by rfl) (fun W (hW : Below _ _ W) => ?_) ?_
    · skip
      go_simp
      exact (HHI.out W).mono fun e w9 h9 => ⟨h9.1, h9.2 ▸ hW⟩
    try simp only [Act.put, List.setIfInBounds_toArray, List.set_cons_zero, List.set_cons_succ]
    refine qc_take (.agg #[.int .u64 lo, .int .u64 hi]) (by rfl) (fun W (hW : Below _ _ W) => ?_) ?_
    · skip
      go_simp
    try simp only [Act.put, List.setIfInBounds_toArray, List.set_cons_zero, List.set_cons_succ]
    refine wpQuiet_nil ?_
    intro v2 hb
    have hr2 := Sn.bk_below HR2.out hb (Sn.bk_lt HR2.out)
    have hB := Sn.below_next HB.out hb HB.out.size
    clear HB HR2 hb
    have HB := Lib.hid hB
    have HR2 := Lib.hid hr2
    clear hB hr2
    clear v HR3 HR4
    rename World => v
    have H1C := Lib.hid (show (#[.int .u64 lo, .int .u64 hi] : Array Value).all (·.oneCell') = true from by simp [Value.oneCell'])
    refine Sn.store_sp (.tmp 6) (.tmp 25) (w.heap.size + 1 + 1) #[.int .u64 0, .int .u64 0] #[.int .u64 lo, .int .u64 hi] HR2.out rfl rfl rfl rfl rfl rfl H1C.out ?_
    go_wp2_with fail
    refine Sn.ret_sp (w.heap.size + 1 + 1) _ (Sn.bk_row HR2.out _) rfl rfl rfl rfl ?_
    exact ⟨rfl, Sn.below_set HB.out (by omega) _⟩
  · intro hrest
    have HREST := Lib.hid hrest
    have HU0 := Lib.hid (show Below v.heap.size v v.drew from (Below.refl _ _).drew)
    clear hrest
    generalize v.drew = u0 at *
    refine headS_ready (rs := [2, 6, 7]) (by kernel_rfl) (by simp) (by rfl) ?_
    refine AllS.cons rfl (fun K hK => ?_) (AllS.cons rfl (fun K hK => ?_) (AllS.cons rfl (fun K hK => ?_) AllS.nil))
    · go_simp
      refine (HX.out u0).mono ?_
      rintro e u1 ⟨rfl, hb⟩
      have hS := Sn.below_next HU0.out hb HU0.out.size
      refine hK.out _ _ hS (fun hHeld => ?_)
      clear hK K hb
      have HU1 := Lib.hid hS
      clear hS 
      try simp only [Act.put, List.setIfInBounds_toArray, List.set_cons_zero, List.set_cons_succ]
      refine headS_ready (rs := [5, 6, 7]) (by kernel_rfl) (by simp) (by rfl) ?_
      refine AllS.cons rfl (fun K hK => ?_) (AllS.cons rfl (fun K hK => ?_) (AllS.cons rfl (fun K hK => ?_) AllS.nil))
      · go_simp
        refine (HY.out u1).mono ?_
        rintro e u2 ⟨rfl, hb⟩
        have hS := Sn.below_next HU1.out hb HU1.out.size
        refine hK.out _ _ hS (fun hHeld => ?_)
        clear hK K hb
        have HU2 := Lib.hid hS
        clear hS 
        try simp only [Act.put, List.setIfInBounds_toArray, List.set_cons_zero, List.set_cons_succ]
        refine headS_ready (rs := [6, 7]) (by kernel_rfl) (by simp) (by rfl) ?_
        refine AllS.cons rfl (fun K hK => ?_) (AllS.cons rfl (fun K hK => ?_) AllS.nil)
        · go_simp
          have hS : Below v.heap.size v (u2.alloc (.cells #[.int .u64 0, .int .u64 0] 24)) := HU2.out.alloc HU2.out.size _
          have hka3 : Sn.Bk (u2.alloc (.cells #[.int .u64 0, .int .u64 0] 24)) u2.heap.size 24 #[.int .u64 0, .int .u64 0] := Sn.bk_new _ _ _
          have hva3 := HU2.out.size
          refine hK.out _ _ hS (fun hHeld => ?_)
          clear hK K
          obtain ⟨a3, hg⟩ : ∃ g, u2.heap.size = g := ⟨_, rfl⟩
          rw [hg] at hka3 hva3
          simp only [hg] at hHeld ⊢
          generalize u2.alloc (.cells #[.int .u64 0, .int .u64 0] 24) = u3 at *
          clear hg
          have HU3 := Lib.hid hS
          have HKa3 := Lib.hid hka3
          clear hS hka3 
          try simp only [Act.put, List.setIfInBounds_toArray, List.set_cons_zero, List.set_cons_succ]
          refine headS_ready (rs := [7]) (by kernel_rfl) (by simp) (by rfl) ?_
          refine AllS.cons rfl (fun K hK => ?_) AllS.nil
          · go_simp
            have hS : Below v.heap.size v (u3.alloc (.cells #[.int .u64 0, .int .u64 0] 24)) := HU3.out.alloc HU3.out.size _
            have hka4 : Sn.Bk (u3.alloc (.cells #[.int .u64 0, .int .u64 0] 24)) u3.heap.size 24 #[.int .u64 0, .int .u64 0] := Sn.bk_new _ _ _
            have hva4 := HU3.out.size
            have hka3 : Sn.Bk (u3.alloc (.cells #[.int .u64 0, .int .u64 0] 24)) a3 24 #[.int .u64 0, .int .u64 0] := Sn.bk_old HKa3.out _
            have hla3a4 := Sn.bk_lt HKa3.out
            refine hK.out _ _ hS (fun hHeld => ?_)
            clear hK K
            obtain ⟨a4, hg⟩ : ∃ g, u3.heap.size = g := ⟨_, rfl⟩
            rw [hg] at hka4 hva4 hla3a4
            simp only [hg] at hHeld ⊢
            generalize u3.alloc (.cells #[.int .u64 0, .int .u64 0] 24) = u4 at *
            clear hg
            have HU4 := Lib.hid hS
            have HKa4 := Lib.hid hka4
            clear HKa3
            have HKa3 := Lib.hid hka3
            clear hS hka4 hka3
            try simp only [Act.put, List.setIfInBounds_toArray, List.set_cons_zero, List.set_cons_succ]
            refine ⟨by kernel_rfl, HREST.out a3 a4 u4 ⟨HU4.out, by omega, by omega, by omega, HKa3.out, HKa4.out⟩⟩
        · go_simp
          have hS : Below v.heap.size v (u2.alloc (.cells #[.int .u64 0, .int .u64 0] 24)) := HU2.out.alloc HU2.out.size _
          have hka5 : Sn.Bk (u2.alloc (.cells #[.int .u64 0, .int .u64 0] 24)) u2.heap.size 24 #[.int .u64 0, .int .u64 0] := Sn.bk_new _ _ _
          have hva5 := HU2.out.size
          refine hK.out _ _ hS (fun hHeld => ?_)
          clear hK K
          obtain ⟨a5, hg⟩ : ∃ g, u2.heap.size = g := ⟨_, rfl⟩
          rw [hg] at hka5 hva5
          simp only [hg] at hHeld ⊢
          generalize u2.alloc (.cells #[.int .u64 0, .int .u64 0] 24) = u5 at *
          clear hg
          have HU5 := Lib.hid hS
          have HKa5 := Lib.hid hka5
          clear hS hka5 
          try simp only [Act.put, List.setIfInBounds_toArray, List.set_cons_zero, List.set_cons_succ]
          refine headS_ready (rs := [6]) (by kernel_rfl) (by simp) (by rfl) ?_
          refine AllS.cons rfl (fun K hK => ?_) AllS.nil
          · go_simp
            have hS : Below v.heap.size v (u5.alloc (.cells #[.int .u64 0, .int .u64 0] 24)) := HU5.out.alloc HU5.out.size _
            have hka6 : Sn.Bk (u5.alloc (.cells #[.int .u64 0, .int .u64 0] 24)) u5.heap.size 24 #[.int .u64 0, .int .u64 0] := Sn.bk_new _ _ _
            have hva6 := HU5.out.size
            have hka5 : Sn.Bk (u5.alloc (.cells #[.int .u64 0, .int .u64 0] 24)) a5 24 #[.int .u64 0, .int .u64 0] := Sn.bk_old HKa5.out _
            have hla5a6 := Sn.bk_lt HKa5.out
            refine hK.out _ _ hS (fun hHeld => ?_)
            clear hK K
            obtain ⟨a6, hg⟩ : ∃ g, u5.heap.size = g := ⟨_, rfl⟩
            rw [hg] at hka6 hva6 hla5a6
            simp only [hg] at hHeld ⊢
            generalize u5.alloc (.cells #[.int .u64 0, .int .u64 0] 24) = u6 at *
            clear hg
            have HU6 := Lib.hid hS
            have HKa6 := Lib.hid hka6
            clear HKa5
            have HKa5 := Lib.hid hka5
            clear hS hka6 hka5
            try simp only [Act.put, List.setIfInBounds_toArray, List.set_cons_zero, List.set_cons_succ]
            refine ⟨by kernel_rfl, HREST.out a6 a5 u6 ⟨HU6.out, by omega, by omega, by omega, HKa6.out, HKa5.out⟩⟩
      · go_simp
        have hS : Below v.heap.size v (u1.alloc (.cells #[.int .u64 0, .int .u64 0] 24)) := HU1.out.alloc HU1.out.size _
        have hka7 : Sn.Bk (u1.alloc (.cells #[.int .u64 0, .int .u64 0] 24)) u1.heap.size 24 #[.int .u64 0, .int .u64 0] := Sn.bk_new _ _ _
        have hva7 := HU1.out.size
        refine hK.out _ _ hS (fun hHeld => ?_)
        clear hK K
        obtain ⟨a7, hg⟩ : ∃ g, u1.heap.size = g := ⟨_, rfl⟩
        rw [hg] at hka7 hva7
        simp only [hg] at hHeld ⊢
        generalize u1.alloc (.cells #[.int .u64 0, .int .u64 0] 24) = u7 at *
        clear hg
        have HU7 := Lib.hid hS
        have HKa7 := Lib.hid hka7
        clear hS hka7 
        try simp only [Act.put, List.setIfInBounds_toArray, List.set_cons_zero, List.set_cons_succ]
        refine headS_ready (rs := [5, 7]) (by kernel_rfl) (by simp) (by rfl) ?_
        refine AllS.cons rfl (fun K hK => ?_) (AllS.cons rfl (fun K hK => ?_) AllS.nil)
        · go_simp
          refine (HY.out u7).mono ?_
          rintro e u8 ⟨rfl, hb⟩
          have hS := Sn.below_next HU7.out hb HU7.out.size
          have hka7 := Sn.bk_below HKa7.out hb (Sn.bk_lt HKa7.out)
          refine hK.out _ _ hS (fun hHeld => ?_)
          clear hK K hb
          have HU8 := Lib.hid hS
          clear HKa7
          have HKa7 := Lib.hid hka7
          clear hS hka7
          try simp only [Act.put, List.setIfInBounds_toArray, List.set_cons_zero, List.set_cons_succ]
          refine headS_ready (rs := [7]) (by kernel_rfl) (by simp) (by rfl) ?_
          refine AllS.cons rfl (fun K hK => ?_) AllS.nil
          · go_simp
            have hS : Below v.heap.size v (u8.alloc (.cells #[.int .u64 0, .int .u64 0] 24)) := HU8.out.alloc HU8.out.size _
            have hka9 : Sn.Bk (u8.alloc (.cells #[.int .u64 0, .int .u64 0] 24)) u8.heap.size 24 #[.int .u64 0, .int .u64 0] := Sn.bk_new _ _ _
            have hva9 := HU8.out.size
            have hka7 : Sn.Bk (u8.alloc (.cells #[.int .u64 0, .int .u64 0] 24)) a7 24 #[.int .u64 0, .int .u64 0] := Sn.bk_old HKa7.out _
            have hla7a9 := Sn.bk_lt HKa7.out
            refine hK.out _ _ hS (fun hHeld => ?_)
            clear hK K
            obtain ⟨a9, hg⟩ : ∃ g, u8.heap.size = g := ⟨_, rfl⟩
            rw [hg] at hka9 hva9 hla7a9
            simp only [hg] at hHeld ⊢
            generalize u8.alloc (.cells #[.int .u64 0, .int .u64 0] 24) = u9 at *
            clear hg
            have HU9 := Lib.hid hS
            have HKa9 := Lib.hid hka9
            clear HKa7
            have HKa7 := Lib.hid hka7
            clear hS hka9 hka7
            try simp only [Act.put, List.setIfInBounds_toArray, List.set_cons_zero, List.set_cons_succ]
            refine ⟨by kernel_rfl, HREST.out a7 a9 u9 ⟨HU9.out, by omega, by omega, by omega, HKa7.out, HKa9.out⟩⟩
        · go_simp
          have hS : Below v.heap.size v (u7.alloc (.cells #[.int .u64 0, .int .u64 0] 24)) := HU7.out.alloc HU7.out.size _
          have hka10 : Sn.Bk (u7.alloc (.cells #[.int .u64 0, .int .u64 0] 24)) u7.heap.size 24 #[.int .u64 0, .int .u64 0] := Sn.bk_new _ _ _
          have hva10 := HU7.out.size
          have hka7 : Sn.Bk (u7.alloc (.cells #[.int .u64 0, .int .u64 0] 24)) a7 24 #[.int .u64 0, .int .u64 0] := Sn.bk_old HKa7.out _
          have hla7a10 := Sn.bk_lt HKa7.out
          refine hK.out _ _ hS (fun hHeld => ?_)
          clear hK K
          obtain ⟨a10, hg⟩ : ∃ g, u7.heap.size = g := ⟨_, rfl⟩
          rw [hg] at hka10 hva10 hla7a10
          simp only [hg] at hHeld ⊢
          generalize u7.alloc (.cells #[.int .u64 0, .int .u64 0] 24) = u10 at *
          clear hg
          have HU10 := Lib.hid hS
          have HKa10 := Lib.hid hka10
          clear HKa7
          have HKa7 := Lib.hid hka7
          clear hS hka10 hka7
          try simp only [Act.put, List.setIfInBounds_toArray, List.set_cons_zero, List.set_cons_succ]
          refine headS_ready (rs := [5]) (by kernel_rfl) (by simp) (by rfl) ?_
          refine AllS.cons rfl (fun K hK => ?_) AllS.nil
          · go_simp
            refine (HY.out u10).mono ?_
            rintro e u11 ⟨rfl, hb⟩
            have hS := Sn.below_next HU10.out hb HU10.out.size
            have hka7 := Sn.bk_below HKa7.out hb (Sn.bk_lt HKa7.out)
            have hka10 := Sn.bk_below HKa10.out hb (Sn.bk_lt HKa10.out)
            refine hK.out _ _ hS (fun hHeld => ?_)
            clear hK K hb
            have HU11 := Lib.hid hS
            clear HKa7 HKa10
            have HKa7 := Lib.hid hka7
            have HKa10 := Lib.hid hka10
            clear hS hka7 hka10
            try simp only [Act.put, List.setIfInBounds_toArray, List.set_cons_zero, List.set_cons_succ]
            refine ⟨by kernel_rfl, HREST.out a7 a10 u11 ⟨HU11.out, by omega, by omega, by omega, HKa7.out, HKa10.out⟩⟩
      · go_simp
        have hS : Below v.heap.size v (u1.alloc (.cells #[.int .u64 0, .int .u64 0] 24)) := HU1.out.alloc HU1.out.size _
        have hka12 : Sn.Bk (u1.alloc (.cells #[.int .u64 0, .int .u64 0] 24)) u1.heap.size 24 #[.int .u64 0, .int .u64 0] := Sn.bk_new _ _ _
        have hva12 := HU1.out.size
        refine hK.out _ _ hS (fun hHeld => ?_)
        clear hK K
        obtain ⟨a12, hg⟩ : ∃ g, u1.heap.size = g := ⟨_, rfl⟩
        rw [hg] at hka12 hva12
        simp only [hg] at hHeld ⊢
        generalize u1.alloc (.cells #[.int .u64 0, .int .u64 0] 24) = u12 at *
        clear hg
        have HU12 := Lib.hid hS
        have HKa12 := Lib.hid hka12
        clear hS hka12 
        try simp only [Act.put, List.setIfInBounds_toArray, List.set_cons_zero, List.set_cons_succ]
        refine headS_ready (rs := [5, 6]) (by kernel_rfl) (by simp) (by rfl) ?_
        refine AllS.cons rfl (fun K hK => ?_) (AllS.cons rfl (fun K hK => ?_) AllS.nil)
        · go_simp
          refine (HY.out u12).mono ?_
          rintro e u13 ⟨rfl, hb⟩
          have hS := Sn.below_next HU12.out hb HU12.out.size
          have hka12 := Sn.bk_below HKa12.out hb (Sn.bk_lt HKa12.out)
          refine hK.out _ _ hS (fun hHeld => ?_)
          clear hK K hb
          have HU13 := Lib.hid hS
          clear HKa12
          have HKa12 := Lib.hid hka12
          clear hS hka12
          try simp only [Act.put, List.setIfInBounds_toArray, List.set_cons_zero, List.set_cons_succ]
          refine headS_ready (rs := [6]) (by kernel_rfl) (by simp) (by rfl) ?_
          refine AllS.cons rfl (fun K hK => ?_) AllS.nil
          · go_simp
            have hS : Below v.heap.size v (u13.alloc (.cells #[.int .u64 0, .int .u64 0] 24)) := HU13.out.alloc HU13.out.size _
            have hka14 : Sn.Bk (u13.alloc (.cells #[.int .u64 0, .int .u64 0] 24)) u13.heap.size 24 #[.int .u64 0, .int .u64 0] := Sn.bk_new _ _ _
            have hva14 := HU13.out.size
            have hka12 : Sn.Bk (u13.alloc (.cells #[.int .u64 0, .int .u64 0] 24)) a12 24 #[.int .u64 0, .int .u64 0] := Sn.bk_old HKa12.out _
            have hla12a14 := Sn.bk_lt HKa12.out
            refine hK.out _ _ hS (fun hHeld => ?_)
            clear hK K
            obtain ⟨a14, hg⟩ : ∃ g, u13.heap.size = g := ⟨_, rfl⟩
            rw [hg] at hka14 hva14 hla12a14
            simp only [hg] at hHeld ⊢
            generalize u13.alloc (.cells #[.int .u64 0, .int .u64 0] 24) = u14 at *
            clear hg
            have HU14 := Lib.hid hS
            have HKa14 := Lib.hid hka14
            clear HKa12
            have HKa12 := Lib.hid hka12
            clear hS hka14 hka12
            try simp only [Act.put, List.setIfInBounds_toArray, List.set_cons_zero, List.set_cons_succ]
            refine ⟨by kernel_rfl, HREST.out a14 a12 u14 ⟨HU14.out, by omega, by omega, by omega, HKa14.out, HKa12.out⟩⟩
        · go_simp
          have hS : Below v.heap.size v (u12.alloc (.cells #[.int .u64 0, .int .u64 0] 24)) := HU12.out.alloc HU12.out.size _
          have hka15 : Sn.Bk (u12.alloc (.cells #[.int .u64 0, .int .u64 0] 24)) u12.heap.size 24 #[.int .u64 0, .int .u64 0] := Sn.bk_new _ _ _
          have hva15 := HU12.out.size
          have hka12 : Sn.Bk (u12.alloc (.cells #[.int .u64 0, .int .u64 0] 24)) a12 24 #[.int .u64 0, .int .u64 0] := Sn.bk_old HKa12.out _
          have hla12a15 := Sn.bk_lt HKa12.out
          refine hK.out _ _ hS (fun hHeld => ?_)
          clear hK K
          obtain ⟨a15, hg⟩ : ∃ g, u12.heap.size = g := ⟨_, rfl⟩
          rw [hg] at hka15 hva15 hla12a15
          simp only [hg] at hHeld ⊢
          generalize u12.alloc (.cells #[.int .u64 0, .int .u64 0] 24) = u15 at *
          clear hg
          have HU15 := Lib.hid hS
          have HKa15 := Lib.hid hka15
          clear HKa12
          have HKa12 := Lib.hid hka12
          clear hS hka15 hka12
          try simp only [Act.put, List.setIfInBounds_toArray, List.set_cons_zero, List.set_cons_succ]
          refine headS_ready (rs := [5]) (by kernel_rfl) (by simp) (by rfl) ?_
          refine AllS.cons rfl (fun K hK => ?_) AllS.nil
          · go_simp
            refine (HY.out u15).mono ?_
            rintro e u16 ⟨rfl, hb⟩
            have hS := Sn.below_next HU15.out hb HU15.out.size
            have hka12 := Sn.bk_below HKa12.out hb (Sn.bk_lt HKa12.out)
            have hka15 := Sn.bk_below HKa15.out hb (Sn.bk_lt HKa15.out)
            refine hK.out _ _ hS (fun hHeld => ?_)
            clear hK K hb
            have HU16 := Lib.hid hS
            clear HKa12 HKa15
            have HKa12 := Lib.hid hka12
            have HKa15 := Lib.hid hka15
            clear hS hka12 hka15
            try simp only [Act.put, List.setIfInBounds_toArray, List.set_cons_zero, List.set_cons_succ]
            refine ⟨by kernel_rfl, HREST.out a15 a12 u16 ⟨HU16.out, by omega, by omega, by omega, HKa15.out, HKa12.out⟩⟩
    · go_simp
      have hS : Below v.heap.size v (u0.alloc (.cells #[.int .u64 0, .int .u64 0] 24)) := HU0.out.alloc HU0.out.size _
      have hka17 : Sn.Bk (u0.alloc (.cells #[.int .u64 0, .int .u64 0] 24)) u0.heap.size 24 #[.int .u64 0, .int .u64 0] := Sn.bk_new _ _ _
      have hva17 := HU0.out.size
      refine hK.out _ _ hS (fun hHeld => ?_)
      clear hK K
      obtain ⟨a17, hg⟩ : ∃ g, u0.heap.size = g := ⟨_, rfl⟩
      rw [hg] at hka17 hva17
      simp only [hg] at hHeld ⊢
      generalize u0.alloc (.cells #[.int .u64 0, .int .u64 0] 24) = u17 at *
      clear hg
      have HU17 := Lib.hid hS
      have HKa17 := Lib.hid hka17
      clear hS hka17 
      try simp only [Act.put, List.setIfInBounds_toArray, List.set_cons_zero, List.set_cons_succ]
      refine headS_ready (rs := [2, 7]) (by kernel_rfl) (by simp) (by rfl) ?_
      refine AllS.cons rfl (fun K hK => ?_) (AllS.cons rfl (fun K hK => ?_) AllS.nil)
      · go_simp
        refine (HX.out u17).mono ?_
        rintro e u18 ⟨rfl, hb⟩
        have hS := Sn.below_next HU17.out hb HU17.out.size
        have hka17 := Sn.bk_below HKa17.out hb (Sn.bk_lt HKa17.out)
        refine hK.out _ _ hS (fun hHeld => ?_)
        clear hK K hb
        have HU18 := Lib.hid hS
        clear HKa17
        have HKa17 := Lib.hid hka17
        clear hS hka17
        try simp only [Act.put, List.setIfInBounds_toArray, List.set_cons_zero, List.set_cons_succ]
        refine headS_ready (rs := [5, 7]) (by kernel_rfl) (by simp) (by rfl) ?_
        refine AllS.cons rfl (fun K hK => ?_) (AllS.cons rfl (fun K hK => ?_) AllS.nil)
        · go_simp
          refine (HY.out u18).mono ?_
          rintro e u19 ⟨rfl, hb⟩
          have hS := Sn.below_next HU18.out hb HU18.out.size
          have hka17 := Sn.bk_below HKa17.out hb (Sn.bk_lt HKa17.out)
          refine hK.out _ _ hS (fun hHeld => ?_)
          clear hK K hb
          have HU19 := Lib.hid hS
          clear HKa17
          have HKa17 := Lib.hid hka17
          clear hS hka17
          try simp only [Act.put, List.setIfInBounds_toArray, List.set_cons_zero, List.set_cons_succ]
          refine headS_ready (rs := [7]) (by kernel_rfl) (by simp) (by rfl) ?_
          refine AllS.cons rfl (fun K hK => ?_) AllS.nil
          · go_simp
            have hS : Below v.heap.size v (u19.alloc (.cells #[.int .u64 0, .int .u64 0] 24)) := HU19.out.alloc HU19.out.size _
            have hka20 : Sn.Bk (u19.alloc (.cells #[.int .u64 0, .int .u64 0] 24)) u19.heap.size 24 #[.int .u64 0, .int .u64 0] := Sn.bk_new _ _ _
            have hva20 := HU19.out.size
            have hka17 : Sn.Bk (u19.alloc (.cells #[.int .u64 0, .int .u64 0] 24)) a17 24 #[.int .u64 0, .int .u64 0] := Sn.bk_old HKa17.out _
            have hla17a20 := Sn.bk_lt HKa17.out
            refine hK.out _ _ hS (fun hHeld => ?_)
            clear hK K
            obtain ⟨a20, hg⟩ : ∃ g, u19.heap.size = g := ⟨_, rfl⟩
            rw [hg] at hka20 hva20 hla17a20
            simp only [hg] at hHeld ⊢
            generalize u19.alloc (.cells #[.int .u64 0, .int .u64 0] 24) = u20 at *
            clear hg
            have HU20 := Lib.hid hS
            have HKa20 := Lib.hid hka20
            clear HKa17
            have HKa17 := Lib.hid hka17
            clear hS hka20 hka17
            try simp only [Act.put, List.setIfInBounds_toArray, List.set_cons_zero, List.set_cons_succ]
            refine ⟨by kernel_rfl, HREST.out a17 a20 u20 ⟨HU20.out, by omega, by omega, by omega, HKa17.out, HKa20.out⟩⟩
        · go_simp
          have hS : Below v.heap.size v (u18.alloc (.cells #[.int .u64 0, .int .u64 0] 24)) := HU18.out.alloc HU18.out.size _
          have hka21 : Sn.Bk (u18.alloc (.cells #[.int .u64 0, .int .u64 0] 24)) u18.heap.size 24 #[.int .u64 0, .int .u64 0] := Sn.bk_new _ _ _
          have hva21 := HU18.out.size
          have hka17 : Sn.Bk (u18.alloc (.cells #[.int .u64 0, .int .u64 0] 24)) a17 24 #[.int .u64 0, .int .u64 0] := Sn.bk_old HKa17.out _
          have hla17a21 := Sn.bk_lt HKa17.out
          refine hK.out _ _ hS (fun hHeld => ?_)
          clear hK K
          obtain ⟨a21, hg⟩ : ∃ g, u18.heap.size = g := ⟨_, rfl⟩
          rw [hg] at hka21 hva21 hla17a21
          simp only [hg] at hHeld ⊢
          generalize u18.alloc (.cells #[.int .u64 0, .int .u64 0] 24) = u21 at *
          clear hg
          have HU21 := Lib.hid hS
          have HKa21 := Lib.hid hka21
          clear HKa17
          have HKa17 := Lib.hid hka17
          clear hS hka21 hka17
          try simp only [Act.put, List.setIfInBounds_toArray, List.set_cons_zero, List.set_cons_succ]
          refine headS_ready (rs := [5]) (by kernel_rfl) (by simp) (by rfl) ?_
          refine AllS.cons rfl (fun K hK => ?_) AllS.nil
          · go_simp
            refine (HY.out u21).mono ?_
            rintro e u22 ⟨rfl, hb⟩
            have hS := Sn.below_next HU21.out hb HU21.out.size
            have hka17 := Sn.bk_below HKa17.out hb (Sn.bk_lt HKa17.out)
            have hka21 := Sn.bk_below HKa21.out hb (Sn.bk_lt HKa21.out)
            refine hK.out _ _ hS (fun hHeld => ?_)
            clear hK K hb
            have HU22 := Lib.hid hS
            clear HKa17 HKa21
            have HKa17 := Lib.hid hka17
            have HKa21 := Lib.hid hka21
            clear hS hka17 hka21
            try simp only [Act.put, List.setIfInBounds_toArray, List.set_cons_zero, List.set_cons_succ]
            refine ⟨by kernel_rfl, HREST.out a17 a21 u22 ⟨HU22.out, by omega, by omega, by omega, HKa17.out, HKa21.out⟩⟩
      · go_simp
        have hS : Below v.heap.size v (u17.alloc (.cells #[.int .u64 0, .int .u64 0] 24)) := HU17.out.alloc HU17.out.size _
        have hka23 : Sn.Bk (u17.alloc (.cells #[.int .u64 0, .int .u64 0] 24)) u17.heap.size 24 #[.int .u64 0, .int .u64 0] := Sn.bk_new _ _ _
        have hva23 := HU17.out.size
        have hka17 : Sn.Bk (u17.alloc (.cells #[.int .u64 0, .int .u64 0] 24)) a17 24 #[.int .u64 0, .int .u64 0] := Sn.bk_old HKa17.out _
        have hla17a23 := Sn.bk_lt HKa17.out
        refine hK.out _ _ hS (fun hHeld => ?_)
        clear hK K
        obtain ⟨a23, hg⟩ : ∃ g, u17.heap.size = g := ⟨_, rfl⟩
        rw [hg] at hka23 hva23 hla17a23
        simp only [hg] at hHeld ⊢
        generalize u17.alloc (.cells #[.int .u64 0, .int .u64 0] 24) = u23 at *
        clear hg
        have HU23 := Lib.hid hS
        have HKa23 := Lib.hid hka23
        clear HKa17
        have HKa17 := Lib.hid hka17
        clear hS hka23 hka17
        try simp only [Act.put, List.setIfInBounds_toArray, List.set_cons_zero, List.set_cons_succ]
        refine headS_ready (rs := [2]) (by kernel_rfl) (by simp) (by rfl) ?_
        refine AllS.cons rfl (fun K hK => ?_) AllS.nil
        · go_simp
          refine (HX.out u23).mono ?_
          rintro e u24 ⟨rfl, hb⟩
          have hS := Sn.below_next HU23.out hb HU23.out.size
          have hka17 := Sn.bk_below HKa17.out hb (Sn.bk_lt HKa17.out)
          have hka23 := Sn.bk_below HKa23.out hb (Sn.bk_lt HKa23.out)
          refine hK.out _ _ hS (fun hHeld => ?_)
          clear hK K hb
          have HU24 := Lib.hid hS
          clear HKa17 HKa23
          have HKa17 := Lib.hid hka17
          have HKa23 := Lib.hid hka23
          clear hS hka17 hka23
          try simp only [Act.put, List.setIfInBounds_toArray, List.set_cons_zero, List.set_cons_succ]
          refine headS_ready (rs := [5]) (by kernel_rfl) (by simp) (by rfl) ?_
          refine AllS.cons rfl (fun K hK => ?_) AllS.nil
          · go_simp
            refine (HY.out u24).mono ?_
            rintro e u25 ⟨rfl, hb⟩
            have hS := Sn.below_next HU24.out hb HU24.out.size
            have hka17 := Sn.bk_below HKa17.out hb (Sn.bk_lt HKa17.out)
            have hka23 := Sn.bk_below HKa23.out hb (Sn.bk_lt HKa23.out)
            refine hK.out _ _ hS (fun hHeld => ?_)
            clear hK K hb
            have HU25 := Lib.hid hS
            clear HKa17 HKa23
            have HKa17 := Lib.hid hka17
            have HKa23 := Lib.hid hka23
            clear hS hka17 hka23
            try simp only [Act.put, List.setIfInBounds_toArray, List.set_cons_zero, List.set_cons_succ]
            refine ⟨by kernel_rfl, HREST.out a17 a23 u25 ⟨HU25.out, by omega, by omega, by omega, HKa17.out, HKa23.out⟩⟩
    · go_simp
      have hS : Below v.heap.size v (u0.alloc (.cells #[.int .u64 0, .int .u64 0] 24)) := HU0.out.alloc HU0.out.size _
      have hka26 : Sn.Bk (u0.alloc (.cells #[.int .u64 0, .int .u64 0] 24)) u0.heap.size 24 #[.int .u64 0, .int .u64 0] := Sn.bk_new _ _ _
      have hva26 := HU0.out.size
      refine hK.out _ _ hS (fun hHeld => ?_)
      clear hK K
      obtain ⟨a26, hg⟩ : ∃ g, u0.heap.size = g := ⟨_, rfl⟩
      rw [hg] at hka26 hva26
      simp only [hg] at hHeld ⊢
      generalize u0.alloc (.cells #[.int .u64 0, .int .u64 0] 24) = u26 at *
      clear hg
      have HU26 := Lib.hid hS
      have HKa26 := Lib.hid hka26
      clear hS hka26 
      try simp only [Act.put, List.setIfInBounds_toArray, List.set_cons_zero, List.set_cons_succ]
      refine headS_ready (rs := [2, 6]) (by kernel_rfl) (by simp) (by rfl) ?_
      refine AllS.cons rfl (fun K hK => ?_) (AllS.cons rfl (fun K hK => ?_) AllS.nil)
      · go_simp
        refine (HX.out u26).mono ?_
        rintro e u27 ⟨rfl, hb⟩
        have hS := Sn.below_next HU26.out hb HU26.out.size
        have hka26 := Sn.bk_below HKa26.out hb (Sn.bk_lt HKa26.out)
        refine hK.out _ _ hS (fun hHeld => ?_)
        clear hK K hb
        have HU27 := Lib.hid hS
        clear HKa26
        have HKa26 := Lib.hid hka26
        clear hS hka26
        try simp only [Act.put, List.setIfInBounds_toArray, List.set_cons_zero, List.set_cons_succ]
        refine headS_ready (rs := [5, 6]) (by kernel_rfl) (by simp) (by rfl) ?_
        refine AllS.cons rfl (fun K hK => ?_) (AllS.cons rfl (fun K hK => ?_) AllS.nil)
        · go_simp
          refine (HY.out u27).mono ?_
          rintro e u28 ⟨rfl, hb⟩
          have hS := Sn.below_next HU27.out hb HU27.out.size
          have hka26 := Sn.bk_below HKa26.out hb (Sn.bk_lt HKa26.out)
          refine hK.out _ _ hS (fun hHeld => ?_)
          clear hK K hb
          have HU28 := Lib.hid hS
          clear HKa26
          have HKa26 := Lib.hid hka26
          clear hS hka26
          try simp only [Act.put, List.setIfInBounds_toArray, List.set_cons_zero, List.set_cons_succ]
          refine headS_ready (rs := [6]) (by kernel_rfl) (by simp) (by rfl) ?_
          refine AllS.cons rfl (fun K hK => ?_) AllS.nil
          · go_simp
            have hS : Below v.heap.size v (u28.alloc (.cells #[.int .u64 0, .int .u64 0] 24)) := HU28.out.alloc HU28.out.size _
            have hka29 : Sn.Bk (u28.alloc (.cells #[.int .u64 0, .int .u64 0] 24)) u28.heap.size 24 #[.int .u64 0, .int .u64 0] := Sn.bk_new _ _ _
            have hva29 := HU28.out.size
            have hka26 : Sn.Bk (u28.alloc (.cells #[.int .u64 0, .int .u64 0] 24)) a26 24 #[.int .u64 0, .int .u64 0] := Sn.bk_old HKa26.out _
            have hla26a29 := Sn.bk_lt HKa26.out
            refine hK.out _ _ hS (fun hHeld => ?_)
            clear hK K
            obtain ⟨a29, hg⟩ : ∃ g, u28.heap.size = g := ⟨_, rfl⟩
            rw [hg] at hka29 hva29 hla26a29
            simp only [hg] at hHeld ⊢
            generalize u28.alloc (.cells #[.int .u64 0, .int .u64 0] 24) = u29 at *
            clear hg
            have HU29 := Lib.hid hS
            have HKa29 := Lib.hid hka29
            clear HKa26
            have HKa26 := Lib.hid hka26
            clear hS hka29 hka26
            try simp only [Act.put, List.setIfInBounds_toArray, List.set_cons_zero, List.set_cons_succ]
            refine ⟨by kernel_rfl, HREST.out a29 a26 u29 ⟨HU29.out, by omega, by omega, by omega, HKa29.out, HKa26.out⟩⟩
        · go_simp
          have hS : Below v.heap.size v (u27.alloc (.cells #[.int .u64 0, .int .u64 0] 24)) := HU27.out.alloc HU27.out.size _
          have hka30 : Sn.Bk (u27.alloc (.cells #[.int .u64 0, .int .u64 0] 24)) u27.heap.size 24 #[.int .u64 0, .int .u64 0] := Sn.bk_new _ _ _
          have hva30 := HU27.out.size
          have hka26 : Sn.Bk (u27.alloc (.cells #[.int .u64 0, .int .u64 0] 24)) a26 24 #[.int .u64 0, .int .u64 0] := Sn.bk_old HKa26.out _
          have hla26a30 := Sn.bk_lt HKa26.out
          refine hK.out _ _ hS (fun hHeld => ?_)
          clear hK K
          obtain ⟨a30, hg⟩ : ∃ g, u27.heap.size = g := ⟨_, rfl⟩
          rw [hg] at hka30 hva30 hla26a30
          simp only [hg] at hHeld ⊢
          generalize u27.alloc (.cells #[.int .u64 0, .int .u64 0] 24) = u30 at *
          clear hg
          have HU30 := Lib.hid hS
          have HKa30 := Lib.hid hka30
          clear HKa26
          have HKa26 := Lib.hid hka26
          clear hS hka30 hka26
          try simp only [Act.put, List.setIfInBounds_toArray, List.set_cons_zero, List.set_cons_succ]
          refine headS_ready (rs := [5]) (by kernel_rfl) (by simp) (by rfl) ?_
          refine AllS.cons rfl (fun K hK => ?_) AllS.nil
          · go_simp
            refine (HY.out u30).mono ?_
            rintro e u31 ⟨rfl, hb⟩
            have hS := Sn.below_next HU30.out hb HU30.out.size
            have hka26 := Sn.bk_below HKa26.out hb (Sn.bk_lt HKa26.out)
            have hka30 := Sn.bk_below HKa30.out hb (Sn.bk_lt HKa30.out)
            refine hK.out _ _ hS (fun hHeld => ?_)
            clear hK K hb
            have HU31 := Lib.hid hS
            clear HKa26 HKa30
            have HKa26 := Lib.hid hka26
            have HKa30 := Lib.hid hka30
            clear hS hka26 hka30
            try simp only [Act.put, List.setIfInBounds_toArray, List.set_cons_zero, List.set_cons_succ]
            refine ⟨by kernel_rfl, HREST.out a30 a26 u31 ⟨HU31.out, by omega, by omega, by omega, HKa30.out, HKa26.out⟩⟩
      · go_simp
        have hS : Below v.heap.size v (u26.alloc (.cells #[.int .u64 0, .int .u64 0] 24)) := HU26.out.alloc HU26.out.size _
        have hka32 : Sn.Bk (u26.alloc (.cells #[.int .u64 0, .int .u64 0] 24)) u26.heap.size 24 #[.int .u64 0, .int .u64 0] := Sn.bk_new _ _ _
        have hva32 := HU26.out.size
        have hka26 : Sn.Bk (u26.alloc (.cells #[.int .u64 0, .int .u64 0] 24)) a26 24 #[.int .u64 0, .int .u64 0] := Sn.bk_old HKa26.out _
        have hla26a32 := Sn.bk_lt HKa26.out
        refine hK.out _ _ hS (fun hHeld => ?_)
        clear hK K
        obtain ⟨a32, hg⟩ : ∃ g, u26.heap.size = g := ⟨_, rfl⟩
        rw [hg] at hka32 hva32 hla26a32
        simp only [hg] at hHeld ⊢
        generalize u26.alloc (.cells #[.int .u64 0, .int .u64 0] 24) = u32 at *
        clear hg
        have HU32 := Lib.hid hS
        have HKa32 := Lib.hid hka32
        clear HKa26
        have HKa26 := Lib.hid hka26
        clear hS hka32 hka26
        try simp only [Act.put, List.setIfInBounds_toArray, List.set_cons_zero, List.set_cons_succ]
        refine headS_ready (rs := [2]) (by kernel_rfl) (by simp) (by rfl) ?_
        refine AllS.cons rfl (fun K hK => ?_) AllS.nil
        · go_simp
          refine (HX.out u32).mono ?_
          rintro e u33 ⟨rfl, hb⟩
          have hS := Sn.below_next HU32.out hb HU32.out.size
          have hka26 := Sn.bk_below HKa26.out hb (Sn.bk_lt HKa26.out)
          have hka32 := Sn.bk_below HKa32.out hb (Sn.bk_lt HKa32.out)
          refine hK.out _ _ hS (fun hHeld => ?_)
          clear hK K hb
          have HU33 := Lib.hid hS
          clear HKa26 HKa32
          have HKa26 := Lib.hid hka26
          have HKa32 := Lib.hid hka32
          clear hS hka26 hka32
          try simp only [Act.put, List.setIfInBounds_toArray, List.set_cons_zero, List.set_cons_succ]
          refine headS_ready (rs := [5]) (by kernel_rfl) (by simp) (by rfl) ?_
          refine AllS.cons rfl (fun K hK => ?_) AllS.nil
          · go_simp
            refine (HY.out u33).mono ?_
            rintro e u34 ⟨rfl, hb⟩
            have hS := Sn.below_next HU33.out hb HU33.out.size
            have hka26 := Sn.bk_below HKa26.out hb (Sn.bk_lt HKa26.out)
            have hka32 := Sn.bk_below HKa32.out hb (Sn.bk_lt HKa32.out)
            refine hK.out _ _ hS (fun hHeld => ?_)
            clear hK K hb
            have HU34 := Lib.hid hS
            clear HKa26 HKa32
            have HKa26 := Lib.hid hka26
            have HKa32 := Lib.hid hka32
            clear hS hka26 hka32
            try simp only [Act.put, List.setIfInBounds_toArray, List.set_cons_zero, List.set_cons_succ]
            refine ⟨by kernel_rfl, HREST.out a32 a26 u34 ⟨HU34.out, by omega, by omega, by omega, HKa32.out, HKa26.out⟩⟩


end Go.Proofs.Ytbjckcjfambpoaa
