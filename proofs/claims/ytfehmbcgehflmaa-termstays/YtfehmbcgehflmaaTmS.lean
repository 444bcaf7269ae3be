/-
  Two appends in one statement: onto an empty row the list, onto that one node.
-/
import Derived.Test.YtfehmbcgehflmaaTmL0
namespace Go.Proofs.Ytfehmbcgehflmaa
set_option linter.unusedSimpArgs false
set_option linter.unusedVariables false
open Go.RowKit Go.Maps

theorem grownBy_refl (w : World) (r : Option Nat) : w.grownBy w r := ⟨rfl, rfl, rfl, Nat.le_refl _, fun _ _ _ => rfl⟩
theorem run_apG (w : World) (base : Nat) (ty : TypeId) (A0 : Option Addr) (n cap0 : Nat) (Y : List Tm.Nd) (hown : w.ownsRow base 38 6 (.slice A0 n cap0) n (Y.flatMap cells6))
    (A : Option Addr) (m c : Nat) (X : List Tm.Nd) (hr : NdSl w A m c X) (hs : n + m ≤ 1000000) (hbase : base ≤ w.heap.size) :
    ∃ A' cap' w', (Builtin.append_ #[22, 22] ty #[.slice A0 n cap0, .slice A m c]).run Try.prog w = .ok (.slice A' (n + m) cap') w' ∧ w'.ownsRow base 38 6 (.slice A' (n + m) cap') (n + m) ((Y ++ X).flatMap cells6) ∧ w.grownBy w' (oblk A0) ∧ (oblk A' = oblk A0 ∨ oblk A' = some w.heap.size) := by
  obtain ⟨i0, hi0, hz0, hz1, hz2⟩ := info_parts info38
  rcases A with _ | ad
  · obtain rfl := hr.nd.hnone rfl
    have hX : X = [] := List.eq_nil_of_length_eq_zero hr.hlen
    subst hX
    exact ⟨A0, cap0, w, run_ap_nil w base 22 ty 38 i0 6 Try.underlying22 hi0 _ n _ hown c, by simpa using hown, grownBy_refl _ _, .inl rfl⟩
  · have hcells : ∀ j u, (X.flatMap cells6)[j]? = some u → w.cell? (ad.add j) = some u := fun j u hu => by
      rcases Nat.eq_zero_or_pos m with h0 | h0
      · have hX : X = [] := List.eq_nil_of_length_eq_zero (hr.hlen.trans h0)
        subst hX
        simp at hu
      · obtain ⟨b, o', he, _, hc⟩ := hr.nd.mem h0
        injection he with he
        subst he
        exact flat_cell hr.hlen hc j u hu
    obtain ⟨v', w', hrun, h2, h3, _, h5⟩ := run_append_own_at (P := Try.prog) w base 22 ty 38 i0 _ 6 48 Try.underlying22 hi0 hz0 hz1 hz2 rfl (by omega) _ n _ hown ad m c (X.flatMap cells6) (by rw [cells6_len, hr.hlen]) hcells (flat_one X) (by simp only [maxLen]; omega) (by omega) hbase
    have hv : ∃ A' cap', v' = .slice A' (n + m) cap' := by
      rcases h2.2 with ⟨rfl, h0⟩ | ⟨g, cap, cur, rfl, _⟩
      · exact ⟨none, 0, by rw [h0]⟩
      · exact ⟨_, _, rfl⟩
    obtain ⟨A', cap', rfl⟩ := hv
    rw [own_is, own_is] at h5
    rw [own_is] at h3
    exact ⟨A', cap', w', hrun, by rw [List.flatMap_append]; exact h2, h3, h5⟩
/-- One step of a region: an append. -/
theorem step_apG {w : World} {ops : Array Oper} {o : Oper} {a : Act} {K : Act → World → Prop} {Q : Exit → Act → World → Prop} {E : Prop} (hgd : o.guard = none) (s x : Operand)
    (ho : o.op = .call { callee := .builtin .append, args := #[s, x], argTypes := #[22, 22] })
    (base : Nat) (A0 : Option Addr) (n cap0 : Nat) (Y : List Tm.Nd) (hs : a.eval s = .slice A0 n cap0) (hown : w.ownsRow base 38 6 (.slice A0 n cap0) n (Y.flatMap cells6))
    (A : Option Addr) (m c : Nat) (X : List Tm.Nd) (hx : a.eval x = .slice A m c) (hr : NdSl w A m c X) (hsm : n + m ≤ 1000000) (hbase : base ≤ w.heap.size) (N : Nat) (hN : n + m = N)
    (h : ∀ A' cap' w', w'.ownsRow base 38 6 (.slice A' N cap') N ((Y ++ X).flatMap cells6) → w.grownBy w' (oblk A0) → (oblk A' = oblk A0 ∨ oblk A' = some w.heap.size) → K (a.put o.dst (.slice A' N cap')) w') :
    if Region.wanted o (yielded ops a.tmps) = true then Oper.wp Try.prog o a w K Q else E := by
  subst hN
  have hw : Region.wanted o (yielded ops a.tmps) = true := by simp [Region.wanted, hgd]
  rw [if_pos hw]
  obtain ⟨A', cap', w', hrun, h2, h3, h5⟩ := run_apG w base o.type A0 n cap0 Y hown A m c X hr hsm hbase
  unfold Oper.wp execOp
  simp only [ho, resolve, invoke, builtin, Sem.run_bind, Sem.run_pure, Result.andThen_ok, List.map_toArray, List.map_cons, List.map_nil, hs, hx, hrun]
  exact h A' cap' w' h2 h3 h5
/-- Behind the first append, and with the node's row. -/
structure Two (V W : World) (A : Option Addr) (len cap : Nat) (X : List Tm.Nd) (b : Nat) (nd : Tm.Nd) : Prop where
  row : W.ownsRow V.heap.size 38 6 (.slice A len cap) len (X.flatMap cells6)
  blk : Blk W b 38 #[.int .i64 nd.op, .int .i64 nd.w, .int .u64 nd.n, .int .i64 nd.a, .int .i64 nd.b, .int .i64 nd.c]
  bel : Below V.heap.size V W
theorem Two.one {V W : World} {A : Option Addr} {len cap : Nat} {X : List Tm.Nd} {b : Nat} {nd : Tm.Nd} (h : Two V W A len cap X b nd) (hw : Tm.Wf nd) : NdSl W (some ⟨b, 0, none⟩) 1 1 [nd] :=
  ⟨rfl, ⟨Nat.le_refl _, by simp [maxLen], fun e => (by cases e), fun _ => ⟨b, 0, rfl, h.blk.lt, fun i hi => by
    obtain rfl : i = 0 := by omega
    exact ⟨h.blk.c 0, h.blk.c 1, h.blk.c 2, h.blk.c 3, h.blk.c 4, h.blk.c 5⟩⟩⟩, fun x hx => by rw [List.mem_singleton.1 hx]; exact hw⟩
/-- The list was appended first. -/
theorem Two.a {V W : World} {A : Option Addr} {len cap : Nat} {X : List Tm.Nd} {nd : Tm.Nd} (hrow : W.ownsRow V.heap.size 38 6 (.slice A len cap) len (X.flatMap cells6)) (hb : Below V.heap.size V W) :
    Two V (W.alloc (.cells #[.int .i64 nd.op, .int .i64 nd.w, .int .u64 nd.n, .int .i64 nd.a, .int .i64 nd.b, .int .i64 nd.c] 38)) A len cap X W.heap.size nd :=
  ⟨hrow.alloc _, Blk.new W _ _, hb.alloc hb.size _⟩
/-- The node was laid first. -/
theorem Two.b {V U W : World} {A A0 : Option Addr} {len cap : Nat} {X : List Tm.Nd} {b : Nat} {nd : Tm.Nd} (hrow : W.ownsRow V.heap.size 38 6 (.slice A len cap) len (X.flatMap cells6)) (hg : U.grownBy W (oblk A0)) (hbU : Below V.heap.size V U)
    (hblk : Blk U b 38 #[.int .i64 nd.op, .int .i64 nd.w, .int .u64 nd.n, .int .i64 nd.a, .int .i64 nd.b, .int .i64 nd.c]) (hne : oblk A0 ≠ some b) (hge : ∀ k, oblk A0 = some k → V.heap.size ≤ k) : Two V W A len cap X b nd :=
  ⟨hrow, (hg.block b hblk.lt (fun e => hne e.symm)).trans hblk, hbU.trans ((Below.refl _ _).grown hg hbU.size hge)⟩
end Go.Proofs.Ytfehmbcgehflmaa
