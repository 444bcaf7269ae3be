/-
  Lists of nodes appended; what the laws share.
-/
import Derived.Test.YtfehmbcgehflmaaTmK1
import Derived.Test.YtfehmbcgehflmaaTmO
namespace Go.Proofs.Ytfehmbcgehflmaa
set_option linter.unusedSimpArgs false
set_option linter.unusedVariables false
open Go.RowKit Go.Maps

theorem NdSl.of_own {w : World} {base : Nat} {A : Option Addr} {n cap : Nat} {X : List Tm.Nd} (h : w.ownsRow base 38 6 (.slice A n cap) n (X.flatMap cells6)) (hw : ∀ x ∈ X, Tm.Wf x) : NdSl w A n cap X := by
  have hl : X.length = n := by have := h.1; rw [cells6_len] at this; omega
  rcases h.2 with ⟨e, h0⟩ | ⟨g', cap', cur, e', _, hc, h1, h2, _⟩
  · injection e with e1 e2 e3
    subst e1 e3
    exact ⟨hl, ⟨by omega, Nat.zero_le _, fun _ => h0, fun hn => by omega⟩, hw⟩
  · have hcell := h.cells (g := g')
    injection e' with e1 e2 e3
    subst e1 e3
    have hcell := hcell rfl
    have hcs : ∀ j u, (X.flatMap cells6)[j]? = some u → w.cell? ⟨g', j, none⟩ = some u := fun j u hu => by
      have := hcell j u hu
      rw [add_at, Nat.zero_add] at this
      exact this
    refine ⟨hl, ⟨h1, h2, (fun e => by cases e), fun h0 => ⟨g', 0, rfl, (Array.getElem?_eq_some_iff.1 hc).1, fun i hi => ?_⟩⟩, hw⟩
    have k0 := cells6_at X i 0 (by omega) (by omega)
    have k1 := cells6_at X i 1 (by omega) (by omega)
    have k2 := cells6_at X i 2 (by omega) (by omega)
    have k3 := cells6_at X i 3 (by omega) (by omega)
    have k4 := cells6_at X i 4 (by omega) (by omega)
    have k5 := cells6_at X i 5 (by omega) (by omega)
    rw [Nat.zero_add]
    exact ⟨hcs _ _ k0, hcs _ _ k1, hcs _ _ k2, hcs _ _ k3, hcs _ _ k4, hcs _ _ k5⟩
theorem run_ap_nil {P : Program} (w : World) (base : Nat) (t ty e : TypeId) (i : TypeInfo) (size : Nat) (ht : P.underlying t = some (.slice e)) (hi : P.info? e = some i)
    (v : Value) (n : Nat) (xs : List Value) (hown : w.ownsRow base e size v n xs) (c : Nat) : (Builtin.append_ #[t, t] ty #[v, .slice none 0 c]).run P w = .ok v w := by
  rcases hown.2 with ⟨rfl, rfl⟩ | ⟨g, cap, cur, rfl, _, _, hnc, _⟩
  · simp [Builtin.append_, run_underlying ht, sizeOf, typeInfo, hi, Builtin.lenOf, Builtin.firstCells]
  · simp [Builtin.append_, run_underlying ht, sizeOf, typeInfo, hi, Builtin.lenOf, Builtin.firstCells, hnc, storeCells]
theorem flat_one (X : List Tm.Nd) : ∀ u ∈ X.flatMap cells6, u.oneCell' = true := fun u hu => by
  obtain ⟨x, _, hx⟩ := List.mem_flatMap.1 hu
  exact one6 x u hx
theorem flat_cell {w : World} {b o m : Nat} {X : List Tm.Nd} (hl : X.length = m) (hx : ∀ i, i < m → NdAt w b (o + i * 6) (X.getD i Tm.z)) : ∀ j u, (X.flatMap cells6)[j]? = some u → w.cell? ((⟨b, o, none⟩ : Addr).add j) = some u := fun j u hu => by
  have hj : j < (X.flatMap cells6).length := by
    rcases Nat.lt_or_ge j (X.flatMap cells6).length with h | h
    · exact h
    · rw [List.getElem?_eq_none h] at hu; cases hu
  rw [cells6_len] at hj
  have e : j = j / 6 * 6 + j % 6 := by omega
  rw [e, cells6_at X (j / 6) (j % 6) (by omega) (by omega)] at hu
  rw [add_at, e]
  obtain ⟨k0, k1, k2, k3, k4, k5⟩ := hx (j / 6) (by omega)
  have h6 : j % 6 = 0 ∨ j % 6 = 1 ∨ j % 6 = 2 ∨ j % 6 = 3 ∨ j % 6 = 4 ∨ j % 6 = 5 := by omega
  rw [← Nat.add_assoc]
  rcases h6 with h | h | h | h | h | h <;> rw [h] at hu ⊢ <;> simp [cells6] at hu <;> subst hu <;> assumption

/-- append of a list of nodes, nil or not, onto a row of the call's own. -/
theorem run_apN (w : World) (base : Nat) (ty : TypeId) (A0 : Option Addr) (n cap0 : Nat) (Y : List Tm.Nd) (hown : w.ownsRow base 38 6 (.slice A0 n cap0) n (Y.flatMap cells6))
    (A : Option Addr) (m c : Nat) (X : List Tm.Nd) (hr : NdSl w A m c X) (hs : n + m ≤ 1000000) (hbase : base ≤ w.heap.size) :
    ∃ A' cap' w', (Builtin.append_ #[22, 22] ty #[.slice A0 n cap0, .slice A m c]).run Try.prog w = .ok (.slice A' (n + m) cap') w' ∧ w'.ownsRow base 38 6 (.slice A' (n + m) cap') (n + m) ((Y ++ X).flatMap cells6) ∧ Below base w w' ∧ (oblk A' = oblk A0 ∨ oblk A' = some w.heap.size) := by
  obtain ⟨i0, hi0, hz0, hz1, hz2⟩ := info_parts info38
  rcases A with _ | ad
  · obtain rfl := hr.nd.hnone rfl
    have hX : X = [] := List.eq_nil_of_length_eq_zero hr.hlen
    subst hX
    exact ⟨A0, cap0, w, run_ap_nil w base 22 ty 38 i0 6 Try.underlying22 hi0 _ n _ hown c, by simpa using hown, Below.refl _ _, .inl rfl⟩
  · have hcells : ∀ j u, (X.flatMap cells6)[j]? = some u → w.cell? (ad.add j) = some u := fun j u hu => by
      rcases Nat.eq_zero_or_pos m with h0 | h0
      · have hX : X = [] := List.eq_nil_of_length_eq_zero (hr.hlen.trans h0)
        subst hX
        simp at hu
      · obtain ⟨b, o', he, _, hc⟩ := hr.nd.mem h0
        injection he with he
        subst he
        exact flat_cell hr.hlen hc j u hu
    obtain ⟨v', w', hrun, h2, h3, _, h5⟩ := run_append_own_at (P := Try.prog) w base 22 ty 38 i0 _ 6 48 Try.underlying22 hi0 hz0 hz1 hz2 rfl (by omega) _ n _ hown ad m c (X.flatMap cells6) (by rw [cells6_len, hr.hlen]) hcells (flat_one X) (by simp only [maxLen]; omega) (by omega) hbase
    have hv : ∃ A' cap', v' = .slice A' (n + m) cap' := by
      rcases h2.2 with ⟨rfl, h0⟩ | ⟨g, cap, cur, rfl, _⟩
      · exact ⟨none, 0, by rw [h0]⟩
      · exact ⟨_, _, rfl⟩
    obtain ⟨A', cap', rfl⟩ := hv
    rw [own_is, own_is] at h5
    exact ⟨A', cap', w', hrun, by rw [List.flatMap_append]; exact h2, (Below.refl _ _).grown h3 hbase (own_ge hown), h5⟩
theorem wpList_apN {w : World} {ops : Array Oper} {rest : List Oper} {o : Oper} {a : Act} {Q : Exit → Act → World → Prop} (hgd : o.guard = none) (s x : Operand)
    (ho : o.op = .call { callee := .builtin .append, args := #[s, x], argTypes := #[22, 22] })
    (base : Nat) (A0 : Option Addr) (n cap0 : Nat) (Y : List Tm.Nd) (hs : a.eval s = .slice A0 n cap0) (hown : w.ownsRow base 38 6 (.slice A0 n cap0) n (Y.flatMap cells6))
    (A : Option Addr) (m c : Nat) (X : List Tm.Nd) (hx : a.eval x = .slice A m c) (hr : NdSl w A m c X) (hsm : n + m ≤ 1000000) (hbase : base ≤ w.heap.size) (N : Nat) (hN : n + m = N)
    (h : ∀ A' cap' w', w'.ownsRow base 38 6 (.slice A' N cap') N ((Y ++ X).flatMap cells6) → Below base w w' → (oblk A' = oblk A0 ∨ oblk A' = some w.heap.size) → wpList Try.prog ops Q rest (a.put o.dst (.slice A' N cap')) w') : wpList Try.prog ops Q (o :: rest) a w := by
  subst hN
  obtain ⟨A', cap', w', hrun, h2, h3, h5⟩ := run_apN w base o.type A0 n cap0 Y hown A m c X hr hsm hbase
  refine wpList_plain hgd fun K hK => ?_
  unfold Oper.wp execOp
  simp only [ho, resolve, invoke, builtin, Sem.run_bind, Sem.run_pure, Result.andThen_ok, List.map_toArray, List.map_cons, List.map_nil, hs, hx, hrun]
  exact hK _ _ (h A' cap' w' h2 h3 h5)
/-- An empty row of nodes, just made. -/
theorem own_new (w : World) : (w.alloc (.cells #[] 38)).ownsRow w.heap.size 38 6 (.slice (some ⟨w.heap.size, 0, none⟩) 0 0) 0 (([] : List Tm.Nd).flatMap cells6) :=
  ⟨rfl, .inr ⟨w.heap.size, 0, #[], rfl, Nat.le_refl _, heap_alloc_new w _, Nat.le_refl _, Nat.zero_le _, rfl, rfl⟩⟩

set_option maxRecDepth 20000 in
set_option maxHeartbeats 2000000 in
theorem checks_walk (A : Option Addr) (len cap : Nat) (X : List Tm.Nd) (op : Int) (w : World) (hx : NdSl w A len cap X) :
    Calls Try.prog 3 #[.slice A len cap, .int .i64 op] w fun e w' => e = .returned (.bool true) ∧ Below w.heap.size w w' := by
  by_cases hl : 300 < len
  · clear hx
    have hl' : (300 : Int) < len := by omega
    go_enter Try.func3, Try.ntmps3
    go_wp2_with fail
    refine (awake_any _).mono ?_
    rintro e v ⟨rfl, hb⟩
    have HB := Lib.hid hb
    clear hb
    go_wp2
    go_ret
    exact ⟨rfl, HB.out⟩
  · have hl' : ¬ (300 : Int) < len := by omega
    have HX := Lib.hid hx
    have hc : len ≤ 65536 := by omega
    have HL := Lib.hid hc
    clear hx hc
    go_enter Try.func3, Try.ntmps3
    go_wp2_with fail
    refine (awake_any _).mono ?_
    rintro e v ⟨rfl, hb⟩
    have HV := Lib.hid (HX.out.below hb)
    have HB := Lib.hid hb
    clear hb
    have HX1 := Lib.hid (HV.out.below (Below.box v (.cells #[] 38)))
    go_wp2_with (at_builtin
                 refine wpList_apN (w := v.alloc (.cells #[] 38)) rfl (.tmp 15) (.tmp 16) rfl v.heap.size (some ⟨v.heap.size, 0, none⟩) 0 0 [] rfl (own_new v) A len cap X rfl HX1.out (by have := HL.out; omega) (by simp) len (by omega) ?_
                 intro A' cap' v2 hown hb2 _)
    have hb2' : Below v.heap.size v v2 := (Below.box v _).trans hb2
    have HV2 := Lib.hid (HV.out.below hb2')
    have HB2 := Lib.hid (HB.out.trans (hb2'.mono HB.out.size))
    have hsl := NdSl.of_own (X := X) (by simpa using hown) HX.out.wf
    refine (check_any A' len cap' X v2 hsl.nd hsl.hlen hsl.u HL.out).mono ?_
    rintro e v3 ⟨rfl, hb3⟩
    have HV3 := Lib.hid (HV2.out.below hb3)
    have HB3 := Lib.hid (HB2.out.trans (hb3.mono HB2.out.size))
    clear hb3 hsl hb2 hb2' hown
    go_wp2_with fail
    refine (rcheck_any A len cap X v3 HV3.out.nd HV3.out.hlen HV3.out.u HL.out).mono ?_
    rintro e v4 ⟨rfl, hb4⟩
    have HB4 := Lib.hid (HB3.out.trans (hb4.mono HB3.out.size))
    clear hb4
    generalize (Tm.chk X).1 = E
    generalize (Tm.chk X).2 = F
    go_wp2_with (first | (go_at_call 12; refine (kids_any _ _).mono ?_; rintro e w' ⟨rfl, rfl⟩) | (go_at_call 13; refine (rkids_any _ _).mono ?_; rintro e w' ⟨rfl, rfl⟩))
    go_ret
    exact ⟨rfl, HB4.out⟩
end Go.Proofs.Ytfehmbcgehflmaa
