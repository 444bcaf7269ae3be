/-
  Contracts of New, the counter, Len, Asked, has.
  The contract of Make.
-/
import Derived.Test.YtdbcpnpcnkccaaaME
import Derived.Deep.RegionHeld3
import Derived.Deep.Cut
set_option linter.unusedSimpArgs false
set_option linter.unusedVariables false
namespace Go.Proofs.Ytdbcpnpcnkccaaa
set_option maxRecDepth 100000
open Go.RowKit Go.Maps

set_option maxRecDepth 20000 in
set_option maxHeartbeats 1000000 in
theorem new_core (w : World) : Calls Try.prog 15 #[] w fun e w' => e = .returned (.pointer (some ⟨w.heap.size + 1, 0, none⟩)) ∧ w' = (w.alloc (.map #[] 0)).alloc (.cells #[.slice none 0 0, .map (some w.heap.size), .int .i64 0] 92) := by
  have hmm := @run_makeMap Try.prog
  go_enter Try.func15, Try.ntmps15
  go_wp2
  go_ret
  exact ⟨rfl, rfl⟩

theorem new_any (w : World) : Calls Try.prog 15 #[] w fun e w' => ∃ g bm, e = .returned (.pointer (some ⟨g, 0, none⟩)) ∧ Ar w' g bm none 0 [] 0 ∧ Below w.heap.size w w' ∧ w.heap.size ≤ g ∧ w.heap.size ≤ bm := by
  refine (new_core w).mono fun e w' ⟨he, hw⟩ => ?_
  subst hw
  have hm : (w.alloc (.map #[] 0)).heap[w.heap.size]? = some (.map #[] 0) := (MapKept.heap_alloc w _).1
  have hs : (w.alloc (.map #[] 0)).heap.size = w.heap.size + 1 := by simp
  have hb := Blk.new (w.alloc (.map #[] 0)) #[.slice none 0 0, .map (some w.heap.size), .int .i64 0] 92
  rw [hs] at hb
  have bel := Below.box (w.alloc (.map #[] 0)) (.cells #[.slice none 0 0, .map (some w.heap.size), .int .i64 0] 92)
  refine ⟨w.heap.size + 1, w.heap.size, he, ⟨hb, World.ownsRow_nil _ _ _ _, ?_, fun x hx => absurd hx (by simp), List.nodup_nil, fun j hj => absurd hj (by simp)⟩, ((Below.refl _ _).alloc (Nat.le_refl _) _).alloc (by simp) _, by omega, Nat.le_refl _⟩
  refine ⟨.map [], (World.ownsMap_made w Try.prog 36 (plainElem Try.prog 3)).alloc _, isMap_empty, fun nd l hl => ⟨fun h => absurd h (by simp), fun _ => rfl⟩⟩

set_option maxRecDepth 20000 in
set_option maxHeartbeats 1000000 in
theorem add_core (g : Nat) (q : Nat) (w : World) (hc : w.cell? ⟨g, 2, none⟩ = some (.int .i64 q)) (hf : w.frozen? ⟨g, 2, none⟩ = false) (hq : q < 1000000000) :
    Calls Try.prog 65 #[.pointer (some ⟨g, 2, none⟩), .int .i64 1] w fun e w' => e = .returned (.int .i64 ((q + 1 : Nat) : Int)) ∧ w' = w.setCell ⟨g, 2, none⟩ (.int .i64 ((q + 1 : Nat) : Int)) := by
  have hs : (Op.intArith .add .i64 q 1).run Try.prog w = .ok (.int .i64 ((q + 1 : Nat) : Int)) w := by
    simp [Op.intArith]
    rw [IntKind.wrap_i64]
    omega
  have hadd := run_call_add (P := Try.prog) Try.func107 (by kernel_rfl) (by kernel_rfl) (by kernel_rfl) .i64 (by kernel_rfl) (y := 1) hc hf hs
  clear hs
  generalize ((q + 1 : Nat) : Int) = Z at hadd ⊢
  go_enter Try.func65, Try.ntmps65
  go_wp2
  go_ret
  exact ⟨rfl, rfl⟩

section
variable {w : World} {g bm : Nat} {A : Option Addr} {cap : Nat} {X : List Tm.Nd} {q : Nat}

set_option maxRecDepth 20000 in
theorem len_any (h : Ar w g bm A cap X q) : Calls Try.prog 18 #[.pointer (some ⟨g, 0, none⟩)] w fun e w' => e = .returned (.int .i64 X.length) ∧ w = w' := by
  have c0 : w.cell? ⟨g, 0, none⟩ = some (.slice A X.length cap) := h.blk.c 0
  clear h
  generalize X.length = n at c0 ⊢
  go_enter Try.func18, Try.ntmps18
  go_wp2
  go_ret
  exact ⟨rfl, rfl⟩

set_option maxRecDepth 20000 in
theorem has_any (h : Ar w g bm A cap X q) (p : Int) : Calls Try.prog 48 #[.pointer (some ⟨g, 0, none⟩), .int .i64 p] w fun e w' => e = .returned (.bool (Tm.inn p X.length)) ∧ w = w' := by
  have c0 : w.cell? ⟨g, 0, none⟩ = some (.slice A X.length cap) := h.blk.c 0
  clear h
  generalize X.length = n at c0 ⊢
  by_cases h1 : 0 ≤ p
  · by_cases h2 : p < n
    · rw [Tm.inn_iff.2 ⟨h1, h2⟩]
      go_enter Try.func48, Try.ntmps48
      go_wp2
      go_ret
      exact ⟨rfl, rfl⟩
    · have e : Tm.inn p n = false := by rw [← Bool.not_eq_true, Tm.inn_iff]; omega
      rw [e]
      clear e
      go_enter Try.func48, Try.ntmps48
      go_wp2
      go_ret
      exact ⟨rfl, rfl⟩
  · have e : Tm.inn p n = false := by rw [← Bool.not_eq_true, Tm.inn_iff]; omega
    rw [e]
    clear e
    go_enter Try.func48, Try.ntmps48
    go_wp2
    go_ret
    exact ⟨rfl, rfl⟩
end
end Go.Proofs.Ytdbcpnpcnkccaaa
namespace Go.Proofs.Ytdbcpnpcnkccaaa
set_option maxRecDepth 100000
open Go.RowKit Go.Maps

/-- What Make does: the nodes, the place, the error. -/
def Tm.mk (X : List Tm.Nd) (nd : Tm.Nd) : List Tm.Nd × Int × Int :=
  if nd ∈ X then (X, (X.idxOf nd : Int), 0) else if Tm.flt nd X.length X ≠ 0 then (X, 0, Tm.flt nd X.length X) else (X ++ [nd], (X.length : Int), 0)

theorem info38 : (Try.prog.info? 36).map (fun i => (i.zero, i.size, i.bytes)) = some (some (ndv Tm.z), 6, 48) := by kernel_rfl

/-- append of nodes onto a row of the call's own, and where the new row lies. -/
theorem wpList_apS {P : Program} {w : World} {ops : Array Oper} {rest : List Oper} {o : Oper} {a : Act} {Q : Exit → Act → World → Prop} (hgd : o.guard = none) (s x : Operand) (t : TypeId)
    (ho : o.op = .call { callee := .builtin .append, args := #[s, x], argTypes := #[t, t] })
    (base : Nat) (e : TypeId) (i : TypeInfo) (z : Value) (size bytes : Nat) (ht : P.underlying t = some (.slice e)) (hi : P.info? e = some i) (hz : i.zero = some z)
    (hsize : i.size = size) (hby : i.bytes = bytes) (hzs : z.cells.size = size) (hsz : 0 < size)
    (v : Value) (n : Nat) (xs : List Value) (hs : a.eval s = v) (hown : w.ownsRow base e size v n xs)
    (ad : Addr) (m c : Nat) (news : List Value) (hx : a.eval x = .slice (some ad) m c) (hl : news.length = m * size) (hnews : ∀ j u, news[j]? = some u → w.cell? (ad.add j) = some u) (h1 : ∀ u ∈ news, u.oneCell' = true)
    (h63 : n + m ≤ maxLen) (hbytes : (n + m) * bytes ≤ 140737488355328) (hbase : base ≤ w.heap.size) (N : Nat) (L : List Value) (hN : n + m = N) (hL : xs ++ news = L)
    (h : ∀ A' cap' w', w'.ownsRow base e size (.slice A' N cap') N L → w.grownBy w' v.ownBlock → (oblk A' = v.ownBlock ∨ oblk A' = some w.heap.size) → wpList P ops Q rest (a.put o.dst (.slice A' N cap')) w') : wpList P ops Q (o :: rest) a w := by
  subst hN hL
  obtain ⟨v', w', hrun, h2, h3, _, h5⟩ := run_append_own_at (P := P) w base t o.type e i z size bytes ht hi hz hsize hby hzs hsz v n xs hown ad m c news hl hnews h1 h63 hbytes hbase
  have hv : ∃ A' cap', v' = .slice A' (n + m) cap' := by
    rcases h2.2 with ⟨rfl, h0⟩ | ⟨g, cap, cur, rfl, _⟩
    · exact ⟨none, 0, by rw [h0]⟩
    · exact ⟨_, _, rfl⟩
  obtain ⟨A', cap', rfl⟩ := hv
  rw [own_is] at h5
  refine wpList_plain hgd fun K hK => ?_
  unfold Oper.wp execOp
  simp only [ho, resolve, invoke, builtin, Sem.run_bind, Sem.run_pure, Result.andThen_ok, List.map_toArray, List.map_cons, List.map_nil, hs, hx, hrun]
  exact hK _ _ (h A' cap' w' h2 h3 h5)

theorem step_apS {P : Program} {w : World} {ops : Array Oper} {o : Oper} {a : Act} {K : Act → World → Prop} {Q : Exit → Act → World → Prop} {E : Prop} (hgd : o.guard = none) (s x : Operand) (t : TypeId)
    (ho : o.op = .call { callee := .builtin .append, args := #[s, x], argTypes := #[t, t] })
    (base : Nat) (e : TypeId) (i : TypeInfo) (z : Value) (size bytes : Nat) (ht : P.underlying t = some (.slice e)) (hi : P.info? e = some i) (hz : i.zero = some z)
    (hsize : i.size = size) (hby : i.bytes = bytes) (hzs : z.cells.size = size) (hsz : 0 < size)
    (v : Value) (n : Nat) (xs : List Value) (hs : a.eval s = v) (hown : w.ownsRow base e size v n xs)
    (ad : Addr) (m c : Nat) (news : List Value) (hx : a.eval x = .slice (some ad) m c) (hl : news.length = m * size) (hnews : ∀ j u, news[j]? = some u → w.cell? (ad.add j) = some u) (h1 : ∀ u ∈ news, u.oneCell' = true)
    (h63 : n + m ≤ maxLen) (hbytes : (n + m) * bytes ≤ 140737488355328) (hbase : base ≤ w.heap.size) (N : Nat) (L : List Value) (hN : n + m = N) (hL : xs ++ news = L)
    (h : ∀ A' cap' w', w'.ownsRow base e size (.slice A' N cap') N L → w.grownBy w' v.ownBlock → (oblk A' = v.ownBlock ∨ oblk A' = some w.heap.size) → K (a.put o.dst (.slice A' N cap')) w') :
    if Region.wanted o (yielded ops a.tmps) = true then Oper.wp P o a w K Q else E := by
  subst hN hL
  have hw : Region.wanted o (yielded ops a.tmps) = true := by simp [Region.wanted, hgd]
  rw [if_pos hw]
  obtain ⟨v', w', hrun, h2, h3, _, h5⟩ := run_append_own_at (P := P) w base t o.type e i z size bytes ht hi hz hsize hby hzs hsz v n xs hown ad m c news hl hnews h1 h63 hbytes hbase
  have hv : ∃ A' cap', v' = .slice A' (n + m) cap' := by
    rcases h2.2 with ⟨rfl, h0⟩ | ⟨g, cap, cur, rfl, _⟩
    · exact ⟨none, 0, by rw [h0]⟩
    · exact ⟨_, _, rfl⟩
  obtain ⟨A', cap', rfl⟩ := hv
  rw [own_is] at h5
  unfold Oper.wp execOp
  simp only [ho, resolve, invoke, builtin, Sem.run_bind, Sem.run_pure, Result.andThen_ok, List.map_toArray, List.map_cons, List.map_nil, hs, hx, hrun]
  exact h A' cap' w' h2 h3 h5

theorem one6 (n : Tm.Nd) : ∀ u ∈ cells6 n, u.oneCell' = true := fun u hu => by
  simp [cells6] at hu
  rcases hu with rfl | rfl | rfl | rfl | rfl | rfl <;> rfl
theorem news6 (w : World) (n : Tm.Nd) : ∀ j u, (cells6 n)[j]? = some u → (w.alloc (.cells #[.int .i64 n.op, .int .i64 n.w, .int .u64 n.n, .int .i64 n.a, .int .i64 n.b, .int .i64 n.c] 36)).cell? ((⟨w.heap.size, 0, none⟩ : Addr).add j) = some u := fun j u hu => by
  rw [add_at, Nat.zero_add, World.cell?_alloc_new]
  simpa [cells6] using hu

/-- What is behind the first part of Make: the counter has moved, the node lies in a box. -/
structure Bx (w : World) (h : Nat) (n : Tm.Nd) : Prop where
  c0 : w.cell? ⟨h, 0, none⟩ = some (.int .i64 n.op)
  c1 : w.cell? ⟨h, 1, none⟩ = some (.int .i64 n.w)
  c2 : w.cell? ⟨h, 2, none⟩ = some (.int .u64 n.n)
  c3 : w.cell? ⟨h, 3, none⟩ = some (.int .i64 n.a)
  c4 : w.cell? ⟨h, 4, none⟩ = some (.int .i64 n.b)
  c5 : w.cell? ⟨h, 5, none⟩ = some (.int .i64 n.c)
theorem Bx.keep {w w' : World} {h : Nat} {n : Tm.Nd} (k : Bx w h n) (hb : w'.heap[h]? = w.heap[h]?) : Bx w' h n :=
  have e : ∀ o, w'.cell? ⟨h, o, none⟩ = w.cell? ⟨h, o, none⟩ := fun o => by simp [World.cell?, hb]
  ⟨(e _).trans k.c0, (e _).trans k.c1, (e _).trans k.c2, (e _).trans k.c3, (e _).trans k.c4, (e _).trans k.c5⟩
theorem Bx.six {w : World} {h : Nat} {n : Tm.Nd} (k : Bx w h n) : w.cell? ⟨h, 0, none⟩ = some (.int .i64 n.op) ∧ w.cell? ⟨h, 1, none⟩ = some (.int .i64 n.w) ∧ w.cell? ⟨h, 2, none⟩ = some (.int .u64 n.n) ∧ w.cell? ⟨h, 3, none⟩ = some (.int .i64 n.a) ∧ w.cell? ⟨h, 4, none⟩ = some (.int .i64 n.b) ∧ w.cell? ⟨h, 5, none⟩ = some (.int .i64 n.c) :=
  ⟨k.c0, k.c1, k.c2, k.c3, k.c4, k.c5⟩
theorem Bx.new (w : World) (n : Tm.Nd) : Bx (w.alloc (.cells #[.int .i64 n.op, .int .i64 n.w, .int .u64 n.n, .int .i64 n.a, .int .i64 n.b, .int .i64 n.c] 36)) w.heap.size n := by
  constructor <;> simp [World.cell?_alloc_new]

theorem Ar.tick {w : World} {g bm : Nat} {A : Option Addr} {cap : Nat} {X : List Tm.Nd} {q : Nat} (h : Ar w g bm A cap X q) : Ar (w.setCell ⟨g, 2, none⟩ (.int .i64 ((q + 1 : Nat) : Int))) g bm A cap X (q + 1) := by
  have hk : ∀ k, k ≠ g → (w.setCell ⟨g, 2, none⟩ (.int .i64 ((q + 1 : Nat) : Int))).heap[k]? = w.heap[k]? := fun k hk => Below.heap_setCell _ _ _ _ hk
  refine ⟨h.blk.set (i := 2) _, ?_, ?_, h.wf, h.nodup, h.ok⟩
  · rcases h.row with ⟨hl, ⟨e, h0⟩ | ⟨g', cap', cur, e, hb, hc, h1, h2, h3, h4⟩⟩
    · exact ⟨hl, .inl ⟨e, h0⟩⟩
    · refine ⟨hl, .inr ⟨g', cap', cur, e, hb, (hk g' ?_).trans hc, h1, h2, h3, h4⟩⟩
      injection e with e1 _ _
      subst e1
      exact (h.ne.2 g' rfl).1
  · obtain ⟨D, ⟨es, clock, hb, hF, hz, hD⟩, hi, hm⟩ := h.map
    exact ⟨D, ⟨es, clock, (hk bm h.ne.1.symm).trans hb, hF, hz, hD⟩, hi, hm⟩

/-- Make's end. -/
def MkP (g bm : Nat) (A : Option Addr) (X : List Tm.Nd) (q : Nat) (nd : Tm.Nd) (w : World) (e : Ending) (w' : World) : Prop :=
  ∃ A' cap', e = .returned (.tuple #[.int .i64 (Tm.mk X nd).2.1, .int .i64 (Tm.mk X nd).2.2]) ∧ Ar w' g bm A' cap' (Tm.mk X nd).1 (q + 1) ∧ Fr g (some bm) (oblk A) w w' ∧ Moves w.heap.size (oblk A) (oblk A')

theorem MkP.mk' {g bm : Nat} {A : Option Addr} {X Y : List Tm.Nd} {q : Nat} {nd : Tm.Nd} {w w' : World} {e : Ending} {p r : Int} {A' : Option Addr} {cap' : Nat} (he : e = .returned (.tuple #[.int .i64 p, .int .i64 r])) (hm : Tm.mk X nd = (Y, p, r))
    (ha : Ar w' g bm A' cap' Y (q + 1)) (hf : Fr g (some bm) (oblk A) w w') (hv : Moves w.heap.size (oblk A) (oblk A')) : MkP g bm A X q nd w e w' :=
  ⟨A', cap', by rw [hm]; exact he, by rw [hm]; exact ha, hf, hv⟩
theorem Ar.drewN {w : World} {g bm : Nat} {A : Option Addr} {cap : Nat} {X : List Tm.Nd} {q : Nat} (h : Ar w g bm A cap X q) (n : Nat) : Ar (w.drewN n) g bm A cap X q := ⟨h.blk, h.row, h.map, h.wf, h.nodup, h.ok⟩
theorem Ar.drew {w : World} {g bm : Nat} {A : Option Addr} {cap : Nat} {X : List Tm.Nd} {q : Nat} (h : Ar w g bm A cap X q) : Ar w.drew g bm A cap X q := ⟨h.blk, h.row, h.map, h.wf, h.nodup, h.ok⟩
theorem look_in {U : World} {g bm : Nat} {A : Option Addr} {cap : Nat} {X : List Tm.Nd} {q : Nat} {nd : Tm.Nd} (h : Ar U g bm A cap X q) (hw : Tm.Wf nd) (hin : nd ∈ X) (n : Nat) :
    (Instr.lookup 85 (.map (some bm)) (ndv nd) true).run Try.prog (U.drewN n) = .ok (.tuple #[.int .i64 (X.idxOf nd), .bool true]) (U.drewN n) := by
  obtain ⟨l, hl⟩ := key_some hw
  obtain ⟨D, hD, hi, hm⟩ := (show MapOf (U.drewN n) bm X from h.map)
  obtain ⟨v, ps, hrun, hRv⟩ := hD.look_ok key_law Try.underlying85 (zero3 _) (plainElem_int Try.underlying3 (by decide)) hl
  obtain ⟨c, rfl, hc, _⟩ := plainElem_int_inv Try.underlying3 hRv
  obtain ⟨hh, hat⟩ := (hm nd l hl).1 hin
  rw [hh] at hrun
  have hce : c = X.idxOf nd := by
    simp only [Prod.mk.injEq] at hc
    have := hc.1.symm.trans hat
    simpa using this
  subst hce
  exact hrun
theorem look_out {U : World} {g bm : Nat} {A : Option Addr} {cap : Nat} {X : List Tm.Nd} {q : Nat} {nd : Tm.Nd} (h : Ar U g bm A cap X q) (hw : Tm.Wf nd) (hin : nd ∉ X) (n : Nat) :
    (Instr.lookup 85 (.map (some bm)) (ndv nd) true).run Try.prog (U.drewN n) = .ok (.tuple #[.int .i64 0, .bool false]) (U.drewN n) := by
  obtain ⟨l, hl⟩ := key_some hw
  obtain ⟨D, hD, hi, hm⟩ := (show MapOf (U.drewN n) bm X from h.map)
  obtain ⟨v, ps, hrun, hRv⟩ := hD.look_ok key_law Try.underlying85 (zero3 _) (plainElem_int Try.underlying3 (by decide)) hl
  obtain ⟨c, rfl, hc, _⟩ := plainElem_int_inv Try.underlying3 hRv
  have hh := (hm nd l hl).2 hin
  rw [hh] at hrun
  have hce : c = 0 := by
    simp only [Prod.mk.injEq] at hc
    have := hc.1.symm.trans (atKey_of_not_has hh _)
    simpa using this
  subst hce
  exact hrun

/-- The world behind the counter. -/
structure Mid (w U : World) (g bm : Nat) (A : Option Addr) (cap : Nat) (X : List Tm.Nd) (q : Nat) (nd : Tm.Nd) : Prop where
  ar : Ar U g bm A cap X q
  bx : Bx U w.heap.size nd
  fr : Fr g (some bm) (oblk A) w U
  sz : w.heap.size < U.heap.size
  ol : ∀ k, oblk A = some k → k < w.heap.size
theorem Mid.mk0 {w : World} {g bm : Nat} {A : Option Addr} {cap : Nat} {X : List Tm.Nd} {q : Nat} (nd : Tm.Nd) (h : Ar w g bm A cap X q) :
    Mid w ((w.alloc (.cells #[.int .i64 nd.op, .int .i64 nd.w, .int .u64 nd.n, .int .i64 nd.a, .int .i64 nd.b, .int .i64 nd.c] 36)).setCell ⟨g, 2, none⟩ (.int .i64 ((q + 1 : Nat) : Int))) g bm A cap X (q + 1) nd := by
  have hg := h.blk.lt
  refine ⟨(h.below (Below.box w _)).tick, (Bx.new w nd).keep (Below.heap_setCell _ _ _ _ (by show w.heap.size ≠ g; omega)), (Fr.of_below (Below.box w _)).set 2 _, by simp, fun k hk => (h.ne.2 k hk).2.2⟩

set_option maxRecDepth 20000 in
set_option maxHeartbeats 4000000 in
theorem make_in (g bm : Nat) (A : Option Addr) (cap : Nat) (X : List Tm.Nd) (q : Nat) (nd : Tm.Nd) (w : World) (h : Ar w g bm A cap X q) (hq : q < 1000000000) (hw : Tm.Wf nd) (hin : nd ∈ X) :
    Calls Try.prog 42 #[.pointer (some ⟨g, 0, none⟩), ndv nd] w (MkP g bm A X q nd w) := by
  have hmk : Tm.mk X nd = (X, (X.idxOf nd : Int), 0) := if_pos hin
  have HMK := Lib.hid hmk
  have hA1 := h.below (Below.box w (.cells #[.int .i64 nd.op, .int .i64 nd.w, .int .u64 nd.n, .int .i64 nd.a, .int .i64 nd.b, .int .i64 nd.c] 36))
  have HADD := Lib.hid (add_core g q _ (hA1.blk.c 2) (hA1.blk.fr 2) hq)
  have hmid := Mid.mk0 nd h
  clear hA1 hmk
  obtain ⟨op, v, n, a, b, c⟩ := nd
  dsimp only [ndv] at *
  clear h
  go_enter Try.func42, Try.ntmps42
  go_wp2_with fail
  refine HADD.out.mono ?_
  rintro e U0 ⟨rfl, rfl⟩
  revert hmid
  generalize (w.alloc (.cells #[.int .i64 op, .int .i64 v, .int .u64 n, .int .i64 a, .int .i64 b, .int .i64 c] 36)).setCell ⟨g, 2, none⟩ (.int .i64 ((q + 1 : Nat) : Int)) = U
  intro hmid
  have hrun := look_in hmid.ar hw hin
  have c0 : U.cell? ⟨g, 0, none⟩ = some (.slice A X.length cap) := hmid.ar.blk.c 0
  have c1 : U.cell? ⟨g, 1, none⟩ = some (.map (some bm)) := hmid.ar.blk.c 1
  obtain ⟨b0, b1, b2, b3, b4, b5⟩ := hmid.bx
  have HM := Lib.hid hmid
  have HI := Lib.hid hin
  dsimp only [ndv] at hrun b0 b1 b2 b3 b4 b5
  clear hmid hin HADD
  generalize hI : (X.idxOf (⟨op, v, n, a, b, c⟩ : Tm.Nd)) = I at hrun
  have HII := Lib.hid hI
  clear hI
  go_wp2_with fail
  go_quiet (fail)
  go_wp2
  go_ret2
  exact MkP.mk' rfl (HMK.out.trans (by rw [HII.out])) (HM.out.ar.drewN _) (HM.out.fr.drewN _) (Moves.refl _ _)

theorem Mid.drewN {w U : World} {g bm : Nat} {A : Option Addr} {cap : Nat} {X : List Tm.Nd} {q : Nat} {nd : Tm.Nd} (h : Mid w U g bm A cap X q nd) (n : Nat) : Mid w (U.drewN n) g bm A cap X q nd := ⟨h.ar.drewN n, h.bx.keep rfl, h.fr.drewN n, h.sz, h.ol⟩
theorem Mid.drew {w U : World} {g bm : Nat} {A : Option Addr} {cap : Nat} {X : List Tm.Nd} {q : Nat} {nd : Tm.Nd} (h : Mid w U g bm A cap X q nd) : Mid w U.drew g bm A cap X q nd := ⟨h.ar.drew, h.bx.keep rfl, h.fr.drew, h.sz, h.ol⟩
theorem Mid.below {w U V : World} {g bm : Nat} {A : Option Addr} {cap : Nat} {X : List Tm.Nd} {q : Nat} {nd : Tm.Nd} (h : Mid w U g bm A cap X q nd) (hb : Below U.heap.size U V) : Mid w V g bm A cap X q nd :=
  ⟨h.ar.below hb, h.bx.keep (hb.block _ h.sz), h.fr.below hb, Nat.lt_of_lt_of_le h.sz hb.size, h.ol⟩

/-- Behind the append. -/
structure Ap (w V : World) (g bm : Nat) (A : Option Addr) (cap : Nat) (X : List Tm.Nd) (q : Nat) (nd : Tm.Nd) (A' : Option Addr) (cap' : Nat) : Prop where
  blk : Blk V g 92 #[.slice A X.length cap, .map (some bm), .int .i64 q]
  bx : Bx V w.heap.size nd
  map : MapOf V bm X
  row : V.ownsRow 0 36 6 (.slice A' (X.length + 1) cap') (X.length + 1) ((X ++ [nd]).flatMap cells6)
  fr : Fr g (some bm) (oblk A) w V
  mv : Moves w.heap.size (oblk A) (oblk A')
  ne : g ≠ bm ∧ w.heap.size ≠ g ∧ w.heap.size ≠ bm ∧ ∀ k, oblk A' = some k → k ≠ g ∧ k ≠ bm
theorem Mid.app {w V V2 : World} {g bm : Nat} {A A' : Option Addr} {cap cap' : Nat} {X : List Tm.Nd} {q : Nat} {nd : Tm.Nd} {o : Obj} {n : Nat} (hg : g < w.heap.size) (hbm : bm < w.heap.size) (h : Mid w V g bm A cap X q nd)
    (hrow : V2.ownsRow 0 36 6 (.slice A' (X.length + 1) cap') (X.length + 1) ((X ++ [nd]).flatMap cells6)) (hgrow : (V.alloc o).drew.grownBy V2 ((Value.slice A n cap).ownBlock))
    (hmv : oblk A' = (Value.slice A n cap).ownBlock ∨ oblk A' = some (V.alloc o).drew.heap.size) : Ap w V2 g bm A cap X q nd A' cap' := by
  rw [own_is] at hgrow hmv
  have hsz : (V.alloc o).drew.heap.size = V.heap.size + 1 := by simp
  have hV : ∀ k, k < V.heap.size → oblk A ≠ some k → V2.heap[k]? = V.heap[k]? := fun k hk hne => (hgrow.block k (by omega) (fun e => hne e.symm)).trans ((Below.box V o).block k hk)
  have hA : ∀ k, k = g ∨ k = bm ∨ k = w.heap.size → oblk A ≠ some k := fun k hk e => by
    obtain ⟨h1, h2, _⟩ := h.ar.ne.2 k e
    have h3 := h.ol k e
    omega
  have hlt : ∀ k, k = g ∨ k = bm ∨ k = w.heap.size → k < V.heap.size := fun k hk => by
    have := h.sz
    omega
  have hK : ∀ k, k = g ∨ k = bm ∨ k = w.heap.size → V2.heap[k]? = V.heap[k]? := fun k hk => hV k (hlt k hk) (hA k hk)
  have hmv' : Moves w.heap.size (oblk A) (oblk A') := by
    rcases hmv with e | e
    · exact .inl e
    · exact .inr ⟨_, by have := h.sz; omega, e⟩
  refine ⟨(hK g (.inl rfl)).trans h.ar.blk, h.bx.keep (hK _ (.inr (.inr rfl))), ?_, hrow, ?_, hmv', h.ar.ne.1, by omega, by omega, fun k e => ?_⟩
  · obtain ⟨D, ⟨es, clock, hb, hF, hz, hD⟩, hi, hm⟩ := h.ar.map
    exact ⟨D, ⟨es, clock, (hK bm (.inr (.inl rfl))).trans hb, hF, hz, hD⟩, hi, hm⟩
  · refine ⟨hgrow.os.trans h.fr.os, hgrow.tape.trans h.fr.tape, hgrow.output.trans h.fr.output, by have := hgrow.size; have := h.fr.size; omega, fun k hk h1 h2 h3 => ?_⟩
    exact (hV k (Nat.lt_of_lt_of_le hk h.fr.size) (fun e => h3 e.symm)).trans (h.fr.block k hk h1 h2 h3)
  · rcases hmv with e' | e'
    · rw [e'] at e
      obtain ⟨h1, h2, _⟩ := h.ar.ne.2 k e
      exact ⟨h1, h2⟩
    · rw [e'] at e
      injection e with e
      have := hlt g (.inl rfl)
      have := hlt bm (.inr (.inl rfl))
      omega
theorem key_inj {a b : Tm.Nd} {l : Lit} (ha : keyOf Try.prog 36 (ndv a) = some l) (hb : keyOf Try.prog 36 (ndv b) = some l) : a = b := ndv_inj (key_law.inj ha hb)
theorem idxOf_app {X : List Tm.Nd} {nd x : Tm.Nd} (hx : x ∈ X) : (X ++ [nd]).idxOf x = X.idxOf x := by rw [List.idxOf_append, if_pos hx]
theorem idxOf_new {X : List Tm.Nd} {nd : Tm.Nd} (hx : nd ∉ X) : (X ++ [nd]).idxOf nd = X.length := by
  rw [List.idxOf_append, if_neg hx]; simp
theorem Tm.flt_app {X Y : List Tm.Nd} {nd : Tm.Nd} {k : Nat} (hk : k ≤ X.length) : Tm.flt nd k (X ++ Y) = Tm.flt nd k X := by
  by_cases hkk : Tm.kok nd k = true
  · obtain ⟨i0, i1, i2⟩ := Tm.kok_in hkk
    have hwd : ∀ a : Int, 0 ≤ a → a < k → Tm.wd (X ++ Y) a = Tm.wd X a := fun a h0 h1 => by
      unfold Tm.wd
      rw [List.getD_eq_getElem?_getD, List.getD_eq_getElem?_getD, List.getElem?_append_left (by omega)]
    have e0 : Tm.w0 nd (X ++ Y) = Tm.w0 nd X := by
      unfold Tm.w0
      split
      · rename_i c; exact hwd _ (i0 c).1 (i0 c).2
      · rfl
    have e1 : Tm.w1 nd (X ++ Y) = Tm.w1 nd X := by
      unfold Tm.w1
      split
      · rename_i c; exact hwd _ (i1 c).1 (i1 c).2
      · rfl
    have e2 : Tm.w2 nd (X ++ Y) = Tm.w2 nd X := by
      unfold Tm.w2
      split
      · rename_i c; exact hwd _ (i2 c).1 (i2 c).2
      · rfl
    unfold Tm.flt
    rw [e0, e1, e2]
  · have hkk' : Tm.kok nd k = false := by simpa using hkk
    unfold Tm.flt
    rw [hkk']
    simp
theorem Tm.fltAt_app {X Y : List Tm.Nd} {j : Nat} (hj : j < X.length) : Tm.fltAt (X ++ Y) j = Tm.fltAt X j := by
  unfold Tm.fltAt
  rw [List.getD_eq_getElem?_getD, List.getElem?_append_left hj, ← List.getD_eq_getElem?_getD, Tm.flt_app (by omega)]
theorem Tm.fltAt_last {X : List Tm.Nd} {nd : Tm.Nd} : Tm.fltAt (X ++ [nd]) X.length = Tm.flt nd X.length X := by
  unfold Tm.fltAt
  rw [List.getD_eq_getElem?_getD, List.getElem?_append_right (Nat.le_refl _), Tm.flt_app (Nat.le_refl _)]
  simp
theorem Tm.Ok.app {X : List Tm.Nd} {nd : Tm.Nd} (h : Tm.Ok X X.length) (hf : Tm.flt nd X.length X = 0) : Tm.Ok (X ++ [nd]) (X ++ [nd]).length := fun j hj => by
  rw [List.length_append] at hj
  rcases Nat.lt_or_ge j X.length with h1 | h1
  · rw [Tm.fltAt_app h1]; exact h j h1
  · obtain rfl : j = X.length := by simp at hj; omega
    rw [Tm.fltAt_last]; exact hf
/-- Behind the map's store. -/
theorem Ap.done {w V V4 : World} {g bm : Nat} {A A' : Option Addr} {cap cap' : Nat} {X : List Tm.Nd} {q : Nat} {nd : Tm.Nd} (h : Ap w V g bm A cap X q nd A' cap') (hin : nd ∉ X) (hw : Tm.Wf nd) (hf : Tm.flt nd X.length X = 0)
    (hwf : ∀ x ∈ X, Tm.Wf x) (hnd : X.Nodup) (hok : Tm.Ok X X.length) {l : Lit} (hl : keyOf Try.prog 36 (ndv nd) = some l)
    {D : DataW Unit} (hD : ∀ x k, keyOf Try.prog 36 (ndv x) = some k → (x ∈ X → Maps.has D k = true ∧ D.atKey k (.lit (.int .i64 0)) = .lit (.int .i64 (X.idxOf x))) ∧ (x ∉ X → Maps.has D k = false)) (hDm : IsMap D)
    (hown : V4.ownsMap Try.prog 36 (plainElem Try.prog 3) bm (X.length + 1) (D.put l (.lit (.int .i64 X.length)))) (hgrow : (V.setCell ⟨g, 0, none⟩ (.slice A' (X.length + 1) cap')).drew.grownBy V4 (some bm)) :
    Ar V4 g bm A' cap' (X ++ [nd]) q ∧ Fr g (some bm) (oblk A) w V4 := by
  have hlen : (X ++ [nd]).length = X.length + 1 := by simp
  have hs : (V.setCell ⟨g, 0, none⟩ (.slice A' (X.length + 1) cap')).drew.heap.size = V.heap.size := by simp
  have hb3 : Blk (V.setCell ⟨g, 0, none⟩ (.slice A' (X.length + 1) cap')).drew g 92 #[.slice A' (X.length + 1) cap', .map (some bm), .int .i64 q] := h.blk.set (i := 0) _
  have hK : ∀ k, k < V.heap.size → k ≠ bm → k ≠ g → V4.heap[k]? = V.heap[k]? := fun k hk h1 h2 =>
    (hgrow.block k (by omega) (fun e => h1 (Option.some.inj e))).trans (Below.heap_setCell _ _ _ _ h2)
  refine ⟨⟨?_, ?_, ?_, ?_, ?_, hok.app hf⟩, ?_⟩
  · rw [hlen]
    exact (hgrow.block g (by rw [hs]; exact h.blk.lt) (fun e => h.ne.1 (Option.some.inj e))).trans hb3
  · rw [hlen]
    rcases h.row with ⟨hl', ⟨e, h0⟩ | ⟨g', cp, cur, e, hb, hc, h1, h2, h3, h4⟩⟩
    · exact ⟨hl', .inl ⟨e, h0⟩⟩
    · refine ⟨hl', .inr ⟨g', cp, cur, e, hb, (hK g' (Array.getElem?_eq_some_iff.1 hc).1 ?_ ?_).trans hc, h1, h2, h3, h4⟩⟩
      all_goals
        injection e with e1 _ _
        subst e1
      · exact (h.ne.2.2.2 g' rfl).2
      · exact (h.ne.2.2.2 g' rfl).1
  · refine ⟨_, by rw [hlen]; exact hown, hDm.put _ _, fun x k hk => ?_⟩
    by_cases hx : x = nd
    · subst hx
      obtain rfl : l = k := Option.some.inj (hl.symm.trans hk)
      refine ⟨fun _ => ⟨has_put_same hDm (key_law.key hk) _, ?_⟩, fun hn => absurd (by simp) hn⟩
      rw [atKey_put_same hDm (key_law.key hk), idxOf_new hin]
    · have hkl : k ≠ l := fun e => hx (key_inj hk (e ▸ hl))
      obtain ⟨p1, p2⟩ := hD x k hk
      refine ⟨fun hm => ?_, fun hn => ?_⟩
      · have hm' : x ∈ X := by simpa [hx] using hm
        rw [has_put_other hkl, atKey_put_other hkl, idxOf_app hm']
        exact p1 hm'
      · rw [has_put_other hkl]
        exact p2 (fun hm => hn (by simp [hm]))
  · intro x hx
    rcases List.mem_append.1 hx with hx | hx
    · exact hwf x hx
    · rw [List.mem_singleton.1 hx]; exact hw
  · exact List.nodup_append.2 ⟨hnd, by simp, fun a ha b hb => fun e => hin (by rw [← List.mem_singleton.1 hb, ← e]; exact ha)⟩
  · refine ⟨hgrow.os.trans h.fr.os, hgrow.tape.trans h.fr.tape, hgrow.output.trans h.fr.output, by have := hgrow.size; have := h.fr.size; omega, fun k hk h1 h2 h3 => ?_⟩
    exact (hK k (Nat.lt_of_lt_of_le hk h.fr.size) (fun e => h2 (by rw [e])) h1).trans (h.fr.block k hk h1 h2 h3)

set_option maxRecDepth 100000 in
set_option maxHeartbeats 4000000 in
theorem make_out (g bm : Nat) (A : Option Addr) (cap : Nat) (X : List Tm.Nd) (q : Nat) (nd : Tm.Nd) (w : World) (h : Ar w g bm A cap X q) (hq : q < 1000000000) (hw : Tm.Wf nd) (hin : nd ∉ X) (hl : X.length < 65536) :
    Calls Try.prog 42 #[.pointer (some ⟨g, 0, none⟩), ndv nd] w (MkP g bm A X q nd w) := by
  have HMK := Lib.hid (show Tm.mk X nd = if Tm.flt nd X.length X ≠ 0 then (X, 0, Tm.flt nd X.length X) else (X ++ [nd], (X.length : Int), 0) from if_neg hin)
  have hA1 := h.below (Below.box w (.cells #[.int .i64 nd.op, .int .i64 nd.w, .int .u64 nd.n, .int .i64 nd.a, .int .i64 nd.b, .int .i64 nd.c] 36))
  have HADD := Lib.hid (add_core g q _ (hA1.blk.c 2) (hA1.blk.fr 2) hq)
  have hmid := Mid.mk0 nd h
  have HG := Lib.hid (show g < w.heap.size ∧ bm < w.heap.size from ⟨h.blk.lt, h.mlt⟩)
  have HAR := Lib.hid h
  clear hA1
  obtain ⟨op, v, n, a, b, c⟩ := nd
  dsimp only [ndv] at *
  clear h
  go_enter Try.func42, Try.ntmps42
  go_wp2_with fail
  refine HADD.out.mono ?_
  rintro e U0 ⟨rfl, rfl⟩
  revert hmid
  generalize (w.alloc (.cells #[.int .i64 op, .int .i64 v, .int .u64 n, .int .i64 a, .int .i64 b, .int .i64 c] 36)).setCell ⟨g, 2, none⟩ (.int .i64 ((q + 1 : Nat) : Int)) = U
  intro hmid
  have hrun := look_out hmid.ar hw hin
  have c0 : U.cell? ⟨g, 0, none⟩ = some (.slice A X.length cap) := hmid.ar.blk.c 0
  have c1 : U.cell? ⟨g, 1, none⟩ = some (.map (some bm)) := hmid.ar.blk.c 1
  obtain ⟨b0, b1, b2, b3, b4, b5⟩ := hmid.bx
  have HM := Lib.hid hmid
  have HI := Lib.hid hin
  have HW := Lib.hid hw
  dsimp only [ndv] at hrun b0 b1 b2 b3 b4 b5
  clear hmid hin HADD hw
  go_wp2_with fail
  go_quiet (fail)
  clear hrun
  have HM1 := Lib.hid ((HM.out.drewN nq).drew)
  have HF := Lib.hid (fault_any op v n a b c A X.length cap X _ HM1.out.ar.nd HW.out.u.1 HW.out.u.2)
  generalize hln : X.length = ln at *
  have HLN := Lib.hid hln
  clear hln
  go_wp2_with fail
  refine still_tail 5 (by kernel_rfl) (by kernel_rfl) ?_
  simp only [List.take_succ_cons, List.take_zero, List.drop_succ_cons, List.drop_zero]
  repeat still_step
  refine wpStill_nil ?_
  go_wp2_with fail
  refine HF.out.mono ?_
  rintro e V ⟨rfl, hbV⟩
  have HV := Lib.hid (HM1.out.below hbV)
  clear hbV HF HM HM1 b0 b1 b2 b3 b4 b5 c0 c1
  by_cases hf : Tm.flt ⟨op, v, n, a, b, c⟩ ln X = 0
  · have HF := Lib.hid hf
    rw [hf]
    clear hf
    have c0 : V.cell? ⟨g, 0, none⟩ = some (.slice A ln cap) := by rw [← HLN.out]; exact HV.out.ar.blk.c 0
    have c1 : V.cell? ⟨g, 1, none⟩ = some (.map (some bm)) := HV.out.ar.blk.c 1
    have f0 : V.frozen? ⟨g, 0, none⟩ = false := HV.out.ar.blk.fr 0
    obtain ⟨b0, b1, b2, b3, b4, b5⟩ := HV.out.bx
    dsimp only at b0 b1 b2 b3 b4 b5
    have HL := Lib.hid hl
    have hl' : decide ((65536 : Int) ≤ (ln : Int)) = false := decide_eq_false (by omega)
    clear hl
    obtain ⟨i0, hi0, hz0, hz1, hz2⟩ := info_parts info38
    have HRW := Lib.hid (show World.ownsRow (V.alloc (.cells #[.int .i64 op, .int .i64 v, .int .u64 n, .int .i64 a, .int .i64 b, .int .i64 c] 36)).drew 0 36 6 (.slice A ln cap) ln (X.flatMap cells6) by
      have := HV.out.ar.row.alloc (.cells #[.int .i64 op, .int .i64 v, .int .u64 n, .int .i64 a, .int .i64 b, .int .i64 c] 36)
      rw [HLN.out] at this
      exact this)
    have HNW := Lib.hid (show ∀ j u, (cells6 ⟨op, v, n, a, b, c⟩)[j]? = some u → (V.alloc (.cells #[.int .i64 op, .int .i64 v, .int .u64 n, .int .i64 a, .int .i64 b, .int .i64 c] 36)).drew.cell? ((⟨V.heap.size, 0, none⟩ : Addr).add j) = some u from news6 V ⟨op, v, n, a, b, c⟩)
    clear hi0 hz0 hz1 hz2 i0
    go_wp2_with fail
    clear hl'
    obtain ⟨i0, hi0, hz0, hz1, hz2⟩ := info_parts info38
    have HS := Lib.hid (show (fun W => W.cell? ⟨w.heap.size, 0, none⟩ = some (.int .i64 op) ∧ W.cell? ⟨w.heap.size, 1, none⟩ = some (.int .i64 v) ∧ W.cell? ⟨w.heap.size, 2, none⟩ = some (.int .u64 n) ∧ W.cell? ⟨w.heap.size, 3, none⟩ = some (.int .i64 a) ∧ W.cell? ⟨w.heap.size, 4, none⟩ = some (.int .i64 b) ∧ W.cell? ⟨w.heap.size, 5, none⟩ = some (.int .i64 c)) V.drew from HV.out.bx.six)
    have HS1 := Lib.hid (show (fun W => W.cell? ⟨w.heap.size, 0, none⟩ = some (.int .i64 op) ∧ W.cell? ⟨w.heap.size, 1, none⟩ = some (.int .i64 v) ∧ W.cell? ⟨w.heap.size, 2, none⟩ = some (.int .u64 n) ∧ W.cell? ⟨w.heap.size, 3, none⟩ = some (.int .i64 a) ∧ W.cell? ⟨w.heap.size, 4, none⟩ = some (.int .i64 b) ∧ W.cell? ⟨w.heap.size, 5, none⟩ = some (.int .i64 c)) (V.alloc (.cells #[.int .i64 op, .int .i64 v, .int .u64 n, .int .i64 a, .int .i64 b, .int .i64 c] 36)).drew from (HV.out.bx.keep ((Below.box V _).block _ HV.out.sz)).six)
    have hgV : g < V.heap.size := HV.out.ar.blk.lt
    refine wp_region_held_drew (S := fun W => W.cell? ⟨w.heap.size, 0, none⟩ = some (.int .i64 op) ∧ W.cell? ⟨w.heap.size, 1, none⟩ = some (.int .i64 v) ∧ W.cell? ⟨w.heap.size, 2, none⟩ = some (.int .u64 n) ∧ W.cell? ⟨w.heap.size, 3, none⟩ = some (.int .i64 a) ∧ W.cell? ⟨w.heap.size, 4, none⟩ = some (.int .i64 b) ∧ W.cell? ⟨w.heap.size, 5, none⟩ = some (.int .i64 c)) (by kernel_rfl) HS.out (fun hHeld => ?_)
    refine wpAnyH_take (i := 0) (v := .pointer (some ⟨g, 0, none⟩)) rfl (by kernel_rfl) (by kernel_rfl) (by kernel_rfl) (fun _ _ _ h => h) (Or.inl ⟨by rfl, fun w9 hSw => ?_⟩) hHeld ?_
    · (try dsimp only at hSw); go_simp
    try simp only [Act.put, List.setIfInBounds_toArray, List.set_cons_zero, List.set_cons_succ]
    refine wpAnyH_take (i := 1) (v := .pointer (some ⟨g, 0, none⟩)) rfl (by kernel_rfl) (by kernel_rfl) (by kernel_rfl) (fun _ _ _ h => h) (Or.inl ⟨by rfl, fun w9 hSw => ?_⟩) hHeld ?_
    · (try dsimp only at hSw); go_simp
    try simp only [Act.put, List.setIfInBounds_toArray, List.set_cons_zero, List.set_cons_succ]
    refine wpAnyH_take (i := 2) (v := .pointer (some ⟨g, 0, none⟩)) rfl (by kernel_rfl) (by kernel_rfl) (by kernel_rfl) (fun _ _ _ h => h) (Or.inl ⟨by rfl, fun w9 hSw => ?_⟩) hHeld ?_
    · (try dsimp only at hSw); go_simp
    try simp only [Act.put, List.setIfInBounds_toArray, List.set_cons_zero, List.set_cons_succ]
    refine wpAnyH_take (i := 3) (v := .pointer (some ⟨g, 0, none⟩)) rfl (by kernel_rfl) (by kernel_rfl) (by kernel_rfl) (fun _ _ _ h => h) (Or.inl ⟨by rfl, fun w9 hSw => ?_⟩) hHeld ?_
    · (try dsimp only at hSw); go_simp
    try simp only [Act.put, List.setIfInBounds_toArray, List.set_cons_zero, List.set_cons_succ]
    refine wpAnyH_take (i := 5) (v := .agg #[.int .i64 op, .int .i64 v, .int .u64 n, .int .i64 a, .int .i64 b, .int .i64 c]) rfl (by kernel_rfl) (by kernel_rfl) (by kernel_rfl) (fun _ _ _ h => h) (Or.inl ⟨by rfl, fun w9 hSw => ?_⟩) hHeld ?_
    · (try dsimp only at hSw); go_simp
    try simp only [Act.put, List.setIfInBounds_toArray, List.set_cons_zero, List.set_cons_succ]
    refine wpAnyH_ready (rs := [4, 6]) (by kernel_rfl) (by simp) ?_
    refine AllReadyH.cons rfl (fun K hK => ?_) (AllReadyH.cons rfl (fun K hK => ?_) AllReadyH.nil)
    go_simp
    refine hK.out _ _ HS.out (fun hHeld => ?_)
    clear hK K
    try simp only [Act.put, List.setIfInBounds_toArray, List.set_cons_zero, List.set_cons_succ]
    refine wpAnyH_ready (rs := [6]) (by kernel_rfl) (by simp) ?_
    refine AllReadyH.cons rfl (fun K hK => ?_) AllReadyH.nil
    go_simp
    refine hK.out _ _ HS1.out (fun hHeld => ?_)
    clear hK K
    try simp only [Act.put, List.setIfInBounds_toArray, List.set_cons_zero, List.set_cons_succ]
    rotate_left
    go_simp
    refine hK.out _ _ HS1.out (fun hHeld => ?_)
    clear hK K
    try simp only [Act.put, List.setIfInBounds_toArray, List.set_cons_zero, List.set_cons_succ]
    refine wpAnyH_ready (rs := [4]) (by kernel_rfl) (by simp) ?_
    refine AllReadyH.cons rfl (fun K hK => ?_) AllReadyH.nil
    go_simp
    refine hK.out _ _ HS1.out (fun hHeld => ?_)
    clear hK K
    try simp only [Act.put, List.setIfInBounds_toArray, List.set_cons_zero, List.set_cons_succ]
    all_goals
      refine wpAnyH_ready (rs := [7]) (by kernel_rfl) (by simp) ?_
      refine AllReadyH.cons rfl (fun K hK => ?_) AllReadyH.nil
      refine step_apS (w := (V.alloc (.cells #[.int .i64 op, .int .i64 v, .int .u64 n, .int .i64 a, .int .i64 b, .int .i64 c] 36)).drew) rfl (.tmp 45) (.tmp 47) 22 rfl 0 36 i0 _ 6 48 Try.underlying22 hi0 hz0 hz1 hz2 rfl (by omega) (.slice A ln cap) ln (X.flatMap cells6) rfl HRW.out ⟨V.heap.size, 0, none⟩ 1 1 (cells6 ⟨op, v, n, a, b, c⟩) rfl rfl HNW.out (one6 _) (by have := HL.out; simp only [maxLen]; omega) (by have := HL.out; omega) (Nat.zero_le _) (ln + 1) ((X ++ [(⟨op, v, n, a, b, c⟩ : Tm.Nd)]).flatMap cells6) rfl (by simp) ?_
      intro A2 cap2 V2 hrow hgrow hmv
      have hAp := HV.out.app HG.out.1 HG.out.2 (by rw [HLN.out]; exact hrow) hgrow hmv
      clear hrow hgrow hmv
      have HAp := Lib.hid hAp
      refine hK.out _ _ (show (fun W => W.cell? ⟨w.heap.size, 0, none⟩ = some (.int .i64 op) ∧ W.cell? ⟨w.heap.size, 1, none⟩ = some (.int .i64 v) ∧ W.cell? ⟨w.heap.size, 2, none⟩ = some (.int .u64 n) ∧ W.cell? ⟨w.heap.size, 3, none⟩ = some (.int .i64 a) ∧ W.cell? ⟨w.heap.size, 4, none⟩ = some (.int .i64 b) ∧ W.cell? ⟨w.heap.size, 5, none⟩ = some (.int .i64 c)) V2 from hAp.bx.six) (fun hHeld => ?_)
      clear hK K
      try simp only [Act.put, List.setIfInBounds_toArray, List.set_cons_zero, List.set_cons_succ]
      have d0 : V2.cell? ⟨g, 0, none⟩ = some (.slice A ln cap) := by rw [← HLN.out]; exact hAp.blk.c 0
      have f2 : V2.frozen? ⟨g, 0, none⟩ = false := hAp.blk.fr 0
      clear hAp
      refine wpAnyH_take (i := 8) (v := .pointer (some ⟨g, 0, none⟩)) rfl (by kernel_rfl) (by kernel_rfl) (by kernel_rfl) (fun _ _ _ h => h) (Or.inl ⟨by rfl, fun w9 hSw => ?_⟩) hHeld ?_
      · (try dsimp only at hSw); go_simp
      try simp only [Act.put, List.setIfInBounds_toArray, List.set_cons_zero, List.set_cons_succ]
      refine wpAnyH_take (i := 9) (v := .pointer (some ⟨g, 0, none⟩)) rfl (by kernel_rfl) (by kernel_rfl) (by kernel_rfl) (fun _ _ _ h => h) (Or.inl ⟨by rfl, fun w9 hSw => ?_⟩) hHeld ?_
      · (try dsimp only at hSw); go_simp
      try simp only [Act.put, List.setIfInBounds_toArray, List.set_cons_zero, List.set_cons_succ]
      refine wpAnyH_ready (rs := [10]) (by kernel_rfl) (by simp) ?_
      refine AllReadyH.cons rfl (fun K hK => ?_) AllReadyH.nil
      go_simp
      refine hK.out _ _ (show (fun W => W.cell? ⟨w.heap.size, 0, none⟩ = some (.int .i64 op) ∧ W.cell? ⟨w.heap.size, 1, none⟩ = some (.int .i64 v) ∧ W.cell? ⟨w.heap.size, 2, none⟩ = some (.int .u64 n) ∧ W.cell? ⟨w.heap.size, 3, none⟩ = some (.int .i64 a) ∧ W.cell? ⟨w.heap.size, 4, none⟩ = some (.int .i64 b) ∧ W.cell? ⟨w.heap.size, 5, none⟩ = some (.int .i64 c)) (V2.setCell ⟨g, 0, none⟩ (.slice A2 (ln + 1) cap2)) from (HAp.out.bx.keep (Below.heap_setCell _ _ _ _ HAp.out.ne.2.1)).six) (fun hHeld => ?_)
      clear hK K hHeld
      try simp only [Act.put, List.setIfInBounds_toArray, List.set_cons_zero, List.set_cons_succ]
      refine wpAnyH_done (by kernel_rfl) ?_ _
      clear d0 f2 c0 c1 f0 b0 b1 b2 b3 b4 b5
      have c1 : (V2.setCell ⟨g, 0, none⟩ (.slice A2 (ln + 1) cap2)).cell? ⟨g, 1, none⟩ = some (.map (some bm)) := (HAp.out.blk.set (i := 0) _).c 1
      obtain ⟨b0, b1, b2, b3, b4, b5⟩ := (HAp.out.bx.keep (Below.heap_setCell V2 ⟨g, 0, none⟩ (.slice A2 (ln + 1) cap2) _ HAp.out.ne.2.1))
      dsimp only at b0 b1 b2 b3 b4 b5
      obtain ⟨D, hDo, hDi, hDm⟩ := HAp.out.map
      obtain ⟨l, hkl⟩ := key_some HW.out
      have HDo := Lib.hid (show (V2.setCell ⟨g, 0, none⟩ (.slice A2 (ln + 1) cap2)).drew.ownsMap Try.prog 36 (plainElem Try.prog 3) bm ln D by
        obtain ⟨es, clock, hb, hF, hz, hD⟩ := hDo
        exact ⟨es, clock, (Below.heap_setCell V2 ⟨g, 0, none⟩ _ bm HAp.out.ne.1.symm).trans hb, hF, by rw [← HLN.out]; exact hz, hD⟩)
      have HDi := Lib.hid hDi
      have HDm := Lib.hid hDm
      have HKL := Lib.hid hkl
      clear hDo hDi hDm hkl
      have HW2 := Lib.hid (show (Lit.int .i64 (ln : Int)).wf = true from WalkArith.wf_i64 (by have := HL.out; omega))
      go_wp2_with fail
      refine still_tail 6 (by kernel_rfl) (by kernel_rfl) ?_
      simp only [List.take_succ_cons, List.take_zero, List.drop_succ_cons, List.drop_zero]
      repeat still_step
      refine wpStill_nil ?_
      clear b0 b1 b2 b3 b4 b5 c1
      go_wp2_with (at_mapUpdate
                   refine wpList_mapUpdate_own _ rfl _ _ _ 85 rfl 36 3 key_law Try.underlying85 _ bm ln D rfl HDo.out (by have := HL.out; unfold maxLen; omega) _ _ l rfl rfl HKL.out (.lit (.int .i64 (ln : Int))) [] (plainElem_int Try.underlying3 HW2.out) ?_
                   intro V4 hown4 hgrow4
                   have H4 := Lib.hid hown4
                   have HG4 := Lib.hid hgrow4
                   clear hown4 hgrow4)
      go_ret2
      have hfin := HAp.out.done HI.out HW.out (by rw [HLN.out]; exact HF.out) HAR.out.wf HAR.out.nodup HAR.out.ok HKL.out HDm.out HDi.out (by rw [HLN.out]; exact H4.out) (by rw [HLN.out]; exact HG4.out)
      exact MkP.mk' rfl (HMK.out.trans (if_neg (fun h => h HF.out))) hfin.1 hfin.2 HAp.out.mv
  · have hf' : (Tm.flt ⟨op, v, n, a, b, c⟩ ln X != 0) = true := by simpa using hf
    have HF := Lib.hid (HMK.out.trans (if_pos hf))
    clear hf HMK
    generalize Tm.flt ⟨op, v, n, a, b, c⟩ ln X = E at hf' HF ⊢
    go_wp2
    go_ret2
    exact MkP.mk' rfl HF.out HV.out.ar HV.out.fr (Moves.refl _ _)
end Go.Proofs.Ytdbcpnpcnkccaaa
