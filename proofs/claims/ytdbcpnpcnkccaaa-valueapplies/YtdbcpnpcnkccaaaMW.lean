/-
  Layer 7, plain: a byte that is put behind an array.
  The walk of ValuePuts.
-/
import Derived.Test.YtdbcpnpcnkccaaaMT
set_option linter.unusedSimpArgs false
set_option linter.unusedVariables false
namespace Go.Proofs.Ytdbcpnpcnkccaaa
set_option maxRecDepth 100000
open Go.RowKit Go.Maps

theorem getD_app {X Y : List Tm.Nd} {j : Nat} (h : j < X.length) : (X ++ Y).getD j Tm.z = X.getD j Tm.z := by
  rw [List.getD_eq_getElem?_getD, List.getD_eq_getElem?_getD, List.getElem?_append_left h]
theorem getD_last {X : List Tm.Nd} {nd : Tm.Nd} : (X ++ [nd]).getD X.length Tm.z = nd := by
  rw [List.getD_eq_getElem?_getD, List.getElem?_append_right (Nat.le_refl _)]; simp
theorem Vl.vals_app {X Y : List Tm.Nd} {e : Vl.Env} (hX : Tm.Ok X X.length) : ∀ i, i ≤ X.length → Vl.vals (X ++ Y) e i = Vl.vals X e i
  | 0, _ => rfl
  | i + 1, h => by
    rw [Vl.vals, Vl.vals, Vl.vals_app hX i (by omega), getD_app (by omega)]
    rw [Vl.one_congr (X := X ++ Y) (Y := X) (m := i) (Vl.kd_of hX (by omega)) (Vl.down_of fun t ht => by rw [Tm.fltAt_app (by omega)]; exact hX t (by omega)) (fun t ht => getD_app (by omega)) (fun _ _ => rfl)]
/-- A node more: the values that were there stay, the new one is its own. -/
theorem Vl.vals_snoc {X : List Tm.Nd} {nd : Tm.Nd} {e : Vl.Env} (hX : Tm.Ok X X.length) : Vl.vals (X ++ [nd]) e (X.length + 1) = Vl.vals X e X.length ++ [Vl.one (X ++ [nd]) (Vl.vals X e X.length) e nd] := by
  rw [Vl.vals, Vl.vals_app hX _ (Nat.le_refl _), getD_last]
theorem getD_old {v : List Int} {u : List Int} {j : Nat} (h : j < v.length) : (v ++ u).getD j 0 = v.getD j 0 := by
  rw [List.getD_eq_getElem?_getD, List.getD_eq_getElem?_getD, List.getElem?_append_left h]
theorem getD_new {v : List Int} {x : Int} {n : Nat} (h : v.length = n) : (v ++ [x]).getD n 0 = x := by
  rw [List.getD_eq_getElem?_getD, List.getElem?_append_right (by omega), h]; simp

/-- A constant. -/
abbrev Vl.cst (w n : Int) : Tm.Nd := ⟨0, w, n, 0, 0, 0⟩
theorem Vl.flt_cst {X : List Tm.Nd} {w n : Int} {len : Nat} (h : w = 64 ∨ (w = 8 ∧ n < 256)) : Tm.flt (Vl.cst w n) len X = 0 := by
  unfold Tm.flt Tm.kok Tm.wok Tm.nok
  rcases h with rfl | ⟨rfl, h⟩
  · simp [show Tm.kidn 0 = 0 by decide]
  · simp [show Tm.kidn 0 = 0 by decide, h]
theorem Vl.flt_put {X : List Tm.Nd} {len a b c : Nat} (ha : a < len) (hb : b < len) (hc : c < len) (wa : (X.getD a Tm.z).w = 0) (wb : (X.getD b Tm.z).w = 64) (wc : (X.getD c Tm.z).w = 8) : Tm.flt ⟨24, 0, 0, a, b, c⟩ len X = 0 := by
  have hk : Tm.kidn 24 = 3 := by decide
  unfold Tm.flt Tm.kok
  have e0 : Tm.w0 ⟨24, 0, 0, a, b, c⟩ X = 0 := by rw [Tm.w0, if_pos (by rw [hk]; omega)]; exact wa
  have e1 : Tm.w1 ⟨24, 0, 0, a, b, c⟩ X = 64 := by rw [Tm.w1, if_pos (by rw [hk]; omega)]; exact wb
  have e2 : Tm.w2 ⟨24, 0, 0, a, b, c⟩ X = 8 := by rw [Tm.w2, if_pos (by rw [hk]; omega)]; exact wc
  rw [e0, e1, e2]
  have ia : Tm.inn a len = true := Tm.inn_iff.2 (by omega)
  have ib : Tm.inn b len = true := Tm.inn_iff.2 (by omega)
  have ic : Tm.inn c len = true := Tm.inn_iff.2 (by omega)
  simp [hk, ia, ib, ic, Tm.wok, Tm.nok]
theorem Vl.flt_get {X : List Tm.Nd} {len a b : Nat} (ha : a < len) (hb : b < len) (wa : (X.getD a Tm.z).w = 0) (wb : (X.getD b Tm.z).w = 64) : Tm.flt ⟨23, 8, 0, a, b, 0⟩ len X = 0 := by
  have hk : Tm.kidn 23 = 2 := by decide
  unfold Tm.flt Tm.kok
  have e0 : Tm.w0 ⟨23, 8, 0, a, b, 0⟩ X = 0 := by rw [Tm.w0, if_pos (by rw [hk]; omega)]; exact wa
  have e1 : Tm.w1 ⟨23, 8, 0, a, b, 0⟩ X = 64 := by rw [Tm.w1, if_pos (by rw [hk]; omega)]; exact wb
  rw [e0, e1]
  have ia : Tm.inn a len = true := Tm.inn_iff.2 (by omega)
  have ib : Tm.inn b len = true := Tm.inn_iff.2 (by omega)
  simp [hk, ia, ib, Tm.wok, Tm.nok]

def Vl.putM (L : List Tm.Nd) (wh b : Int) : List Tm.Nd := L ++ [Vl.cst 64 wh, Vl.cst 8 b, ⟨24, 0, 0, (L.length - 1 : Nat), (L.length : Nat), (L.length + 1 : Nat)⟩]
def Vl.putM2 (L : List Tm.Nd) (wh b k : Int) : List Tm.Nd := Vl.putM L wh b ++ [Vl.cst 64 k, ⟨23, 8, 0, (L.length + 2 : Nat), (L.length + 3 : Nat), 0⟩]

theorem Vl.chk_of {X : List Tm.Nd} (h0 : 0 < X.length) (h : Tm.Ok X X.length) : (Tm.chk X).1 = 0 := by rw [Tm.chk_ok h0 h]

theorem Vl.puts {L : List Tm.Nd} {e : Vl.Env} (hc : (Tm.chk L).1 = 0) (hw : (L.getD (L.length - 1) Tm.z).w = 0) {wh b k : Int} (hb : 0 ≤ b ∧ b < 256) :
    (Tm.chk (Vl.putM L wh b)).1 = 0 ∧ (Tm.chk (Vl.putM2 L wh b k)).1 = 0 ∧ ∃ y z : Int, Vl.byR L e k = (y, 0) ∧ Vl.byR (Vl.putM L wh b) e k = (z, 0) ∧ Vl.ofR (Vl.putM2 L wh b k) e = (z, 0) ∧ z = if wh = k then b else y := by
  obtain ⟨h0, hok⟩ := Tm.chk_ok_iff hc
  -- node by node
  have ok1 : Tm.Ok (L ++ [Vl.cst 64 wh]) (L ++ [Vl.cst 64 wh]).length := hok.app (Vl.flt_cst (.inl rfl))
  have l1 : (L ++ [Vl.cst 64 wh]).length = L.length + 1 := by simp
  have ok2 : Tm.Ok (L ++ [Vl.cst 64 wh] ++ [Vl.cst 8 b]) (L ++ [Vl.cst 64 wh] ++ [Vl.cst 8 b]).length := ok1.app (Vl.flt_cst (.inr ⟨rfl, hb.2⟩))
  have l2 : (L ++ [Vl.cst 64 wh] ++ [Vl.cst 8 b]).length = L.length + 2 := by simp
  generalize hX1 : L ++ [Vl.cst 64 wh] = X1 at *
  generalize hX2 : X1 ++ [Vl.cst 8 b] = X2 at *
  have g1 : X1.getD L.length Tm.z = Vl.cst 64 wh := by rw [← hX1]; exact getD_last
  have g0 : X1.getD (L.length - 1) Tm.z = L.getD (L.length - 1) Tm.z := by rw [← hX1]; exact getD_app (by omega)
  have q1 : ∀ j, j < L.length + 1 → X2.getD j Tm.z = X1.getD j Tm.z := fun j hj => by rw [← hX2]; exact getD_app (by omega)
  have g2 : X2.getD (L.length + 1) Tm.z = Vl.cst 8 b := by rw [← hX2, ← l1]; exact getD_last
  have hf3 : Tm.flt ⟨24, 0, 0, (L.length - 1 : Nat), (L.length : Nat), (L.length + 1 : Nat)⟩ X2.length X2 = 0 :=
    Vl.flt_put (by omega) (by omega) (by omega) (by rw [q1 _ (by omega), g0]; exact hw) (by rw [q1 _ (by omega), g1]) (by rw [g2])
  have ok3 := ok2.app hf3
  have hM : Vl.putM L wh b = X2 ++ [⟨24, 0, 0, (L.length - 1 : Nat), (L.length : Nat), (L.length + 1 : Nat)⟩] := by rw [Vl.putM, ← hX2, ← hX1]; simp
  rw [← hM] at ok3
  have l3 : (Vl.putM L wh b).length = L.length + 3 := by rw [hM]; simp [l2]
  have q2 : ∀ j, j < L.length + 2 → (Vl.putM L wh b).getD j Tm.z = X2.getD j Tm.z := fun j hj => by rw [hM]; exact getD_app (by omega)
  have g3 : (Vl.putM L wh b).getD (L.length + 2) Tm.z = ⟨24, 0, 0, (L.length - 1 : Nat), (L.length : Nat), (L.length + 1 : Nat)⟩ := by rw [hM, ← l2]; exact getD_last
  generalize hX3 : Vl.putM L wh b = X3 at *
  have ok4 : Tm.Ok (X3 ++ [Vl.cst 64 k]) (X3 ++ [Vl.cst 64 k]).length := ok3.app (Vl.flt_cst (.inl rfl))
  have l4 : (X3 ++ [Vl.cst 64 k]).length = L.length + 4 := by simp [l3]
  have q3 : ∀ j, j < L.length + 3 → (X3 ++ [Vl.cst 64 k]).getD j Tm.z = X3.getD j Tm.z := fun j hj => getD_app (by omega)
  have g4 : (X3 ++ [Vl.cst 64 k]).getD (L.length + 3) Tm.z = Vl.cst 64 k := by rw [← l3]; exact getD_last
  have hM2 : Vl.putM2 L wh b k = X3 ++ [Vl.cst 64 k] ++ [⟨23, 8, 0, (L.length + 2 : Nat), (L.length + 3 : Nat), 0⟩] := by rw [Vl.putM2, hX3]; simp
  generalize hX4 : X3 ++ [Vl.cst 64 k] = X4 at *
  have hf5 : Tm.flt ⟨23, 8, 0, (L.length + 2 : Nat), (L.length + 3 : Nat), 0⟩ X4.length X4 = 0 := Vl.flt_get (by omega) (by omega) (by rw [q3 _ (by omega), g3]) (by rw [g4])
  have ok5 := ok4.app hf5
  rw [← hM2] at ok5
  have l5 : (Vl.putM2 L wh b k).length = L.length + 5 := by rw [hM2]; simp [l4]
  have g5 : (Vl.putM2 L wh b k).getD (L.length + 4) Tm.z = ⟨23, 8, 0, (L.length + 2 : Nat), (L.length + 3 : Nat), 0⟩ := by rw [hM2, ← l4]; exact getD_last
  have q4 : ∀ j, j < L.length + 4 → (Vl.putM2 L wh b k).getD j Tm.z = X4.getD j Tm.z := fun j hj => by rw [hM2]; exact getD_app (by omega)
  generalize hX5 : Vl.putM2 L wh b k = X5 at *
  -- the values
  have v3 : ∀ j, j < L.length → (Vl.vals X3 e X3.length).getD j 0 = (Vl.vals L e L.length).getD j 0 := fun j hj => by
    rw [Vl.vals_pre X3 e hj X3.length (by omega), show Vl.vals X3 e L.length = Vl.vals L e L.length from by rw [← hX3]; exact Vl.vals_app hok _ (Nat.le_refl _)]
  have vself : ∀ {X : List Tm.Nd}, Tm.Ok X X.length → ∀ j, j < X.length → (Vl.vals X e X.length).getD j 0 = Vl.one X (Vl.vals X e j) e (X.getD j Tm.z) := fun _ j hj => Vl.vals_at _ e hj
  have v3w : (Vl.vals X3 e X3.length).getD L.length 0 = wh := by rw [vself ok3 _ (by omega), q2 _ (by omega), q1 _ (by omega), g1]; rfl
  have v3b : (Vl.vals X3 e X3.length).getD (L.length + 1) 0 = b := by rw [vself ok3 _ (by omega), q2 _ (by omega), g2]; rfl
  have v5 : ∀ j, j < L.length + 3 → (Vl.vals X5 e X5.length).getD j 0 = (Vl.vals X3 e X3.length).getD j 0 := fun j hj => by
    have e53 : X5 = X3 ++ [Vl.cst 64 k, ⟨23, 8, 0, (L.length + 2 : Nat), (L.length + 3 : Nat), 0⟩] := by rw [hM2, ← hX4]; simp
    rw [Vl.vals_pre X5 e (show j < X3.length by omega) X5.length (by omega), show Vl.vals X5 e X3.length = Vl.vals X3 e X3.length from by rw [e53]; exact Vl.vals_app ok3 _ (Nat.le_refl _)]
  have g5j : ∀ j, j < L.length + 3 → X5.getD j Tm.z = X3.getD j Tm.z := fun j hj => by rw [q4 _ (by omega), q3 _ (by omega)]
  have v5k : (Vl.vals X5 e X5.length).getD (L.length + 3) 0 = k := by rw [vself ok5 _ (by omega), q4 _ (by omega), g4]; rfl
  have g3j : ∀ j, j < L.length → X3.getD j Tm.z = L.getD j Tm.z := fun j hj => by rw [← hX3]; exact getD_app hj
  have dL : Vl.Down L L.length := Vl.down_of hok
  have d3 : Vl.Down X3 X3.length := Vl.down_of ok3
  -- the array's bytes
  have hgL : Vl.get X3 (Vl.vals X3 e X3.length) e.mem L.length ((L.length - 1 : Nat) : Int) k = Vl.get L (Vl.vals L e L.length) e.mem L.length ((L.length - 1 : Nat) : Int) k :=
    (Vl.get_congr (X := L) (Y := X3) dL (fun j hj => (g3j j hj).symm) (fun j hj => (v3 j hj).symm) L.length (L.length - 1) (by omega)).symm
  have hg3 : Vl.get X3 (Vl.vals X3 e X3.length) e.mem X3.length ((X3.length - 1 : Nat) : Int) k = if wh = k then b else Vl.get L (Vl.vals L e L.length) e.mem L.length ((L.length - 1 : Nat) : Int) k := by
    rw [show X3.length - 1 = L.length + 2 by omega, show X3.length = (L.length + 2) + 1 by omega, Vl.get, Int.toNat_natCast, g3, if_pos rfl]
    dsimp only
    rw [Int.toNat_natCast, Int.toNat_natCast, show L.length + 2 + 1 = X3.length by omega, v3w, v3b, Vl.get_fuel d3 (L.length + 2) (L.length - 1) (by omega) (by omega), show L.length - 1 + 1 = L.length by omega, hgL]
    have : b % 256 = b := by omega
    rw [this]
  have hg5 : (Vl.vals X5 e X5.length).getD (X5.length - 1) 0 = Vl.get X3 (Vl.vals X3 e X3.length) e.mem X3.length ((X3.length - 1 : Nat) : Int) k := by
    have hv := vself ok5 (X5.length - 1) (by omega)
    rw [hv, show X5.length - 1 = L.length + 4 by omega, g5]
    show Vl.get X5 (Vl.vals X5 e (L.length + 4)) e.mem (((L.length + 2 : Nat) : Int).toNat + 1) ((L.length + 2 : Nat) : Int) ((Vl.vals X5 e (L.length + 4)).getD ((L.length + 3 : Nat) : Int).toNat 0) = _
    rw [Int.toNat_natCast, Int.toNat_natCast, ← Vl.vals_pre X5 e (show L.length + 3 < L.length + 4 by omega) X5.length (by omega), v5k, show X3.length - 1 = L.length + 2 by omega, show X3.length = L.length + 2 + 1 by omega]
    refine (Vl.get_congr (X := X3) (Y := X5) d3 (fun j hj => (g5j j (by omega)).symm) (fun j hj => ?_) (L.length + 2 + 1) (L.length + 2) (by omega)).symm
    rw [show L.length + 2 + 1 = X3.length by omega, ← v5 j (by omega)]
    exact Vl.vals_pre X5 e (show j < L.length + 4 by omega) X5.length (by omega)
  have c3 := Vl.chk_of (X := X3) (by omega) ok3
  have c5 := Vl.chk_of (X := X5) (by omega) ok5
  refine ⟨c3, c5, _, _, ?_, ?_, ?_, hg3⟩
  · rw [Vl.byR, if_neg (by simpa using hc), if_neg (by simpa using hw)]
  · rw [Vl.byR, if_neg (show ¬ (Tm.chk X3).1 ≠ 0 by simpa using c3), if_neg]
    rw [show X3.length - 1 = L.length + 2 by omega, g3]; simp
  · rw [Vl.ofR, if_neg (show ¬ (Tm.chk X5).1 ≠ 0 by simpa using c5), if_neg, hg5]
    rw [show X5.length - 1 = L.length + 4 by omega, g5]; simp
end Go.Proofs.Ytdbcpnpcnkccaaa
namespace Go.Proofs.Ytdbcpnpcnkccaaa
set_option maxRecDepth 100000
open Go.RowKit Go.Maps

theorem NdSl.lit (W : World) (X : List Tm.Nd) (cs : Array Value) (n : Nat) (hn : X.length = n) (hcs : cs = (X.flatMap cells6).toArray) (hm : n ≤ 1000) (hw : ∀ x ∈ X, Tm.Wf x) : NdSl (W.alloc (.cells cs 36)) (some ⟨W.heap.size, 0, none⟩) n n X := by
  subst hcs
  subst hn
  refine NdSl.of_own (base := W.heap.size) ⟨by rw [cells6_len], .inr ⟨W.heap.size, X.length, (X.flatMap cells6).toArray, rfl, Nat.le_refl _, heap_alloc_new W _, Nat.le_refl _, by simp only [maxLen]; omega, by rw [List.size_toArray, cells6_len], ?_⟩⟩ hw
  rw [← cells6_len, List.take_length]
theorem wf_mk {op w n a b c : Int} (h1 : 0 ≤ op ∧ op < 1000) (h2 : 0 ≤ w ∧ w < 1000) (h3 : 0 ≤ n ∧ n < 18446744073709551616) (h4 : 0 ≤ a ∧ a < 1000000) (h5 : 0 ≤ b ∧ b < 1000000) (h6 : 0 ≤ c ∧ c < 1000000) : Tm.Wf ⟨op, w, n, a, b, c⟩ := by
  refine ⟨?_, ?_, ?_, ?_, ?_, ?_⟩ <;> simp [Lit.wf, IntKind.min, IntKind.max, IntKind.signed, IntKind.bits] <;> omega

theorem Vl.byR_by {X : List Tm.Nd} {e : Vl.Env} {k : Int} (h : e.Ok) : 0 ≤ (Vl.byR X e k).1 ∧ (Vl.byR X e k).1 < 256 := by
  unfold Vl.byR
  split
  · simp
  · split
    · simp
    · exact Vl.get_by h.mem _ _ _

set_option maxHeartbeats 16000000 in
theorem vputs_walk (A0 : Option Addr) (len cap : Nat) (L : List Tm.Nd) (E : EnV) (e : Vl.Env) (wh k b : Nat) (w : World) (hx : NdSl w A0 len cap L) (hE : EnIn w (fun _ => False) E e) (hwh : wh < 18446744073709551616) (hk : k < 18446744073709551616) (hb : b < 256) :
    Calls Try.prog 5 #[.slice A0 len cap, E.v, .int .u64 wh, .int .u64 k, .int .u8 b] w fun en w' => en = .returned (.bool true) ∧ Below w.heap.size w w' := by
  have HX := Lib.hid hx
  have HE := Lib.hid hE
  have HK := Lib.hid hk
  have HWH := Lib.hid hwh
  have HBB := Lib.hid hb
  have HB0 := Lib.hid (Ebx.new w E)
  clear hx hE hk hwh hb
  rw [env_v]
  go_enter Try.func5, Try.ntmps5
  go_wp2_with fail
  generalize w.alloc (.cells #[.slice E.A1 E.n1 E.c1, .int .u64 E.r0, .int .u64 E.r1, .int .u64 E.r2, .int .u64 E.r3, .int .u64 E.r4, .int .u64 E.r5, .int .u64 E.r6, .int .u64 E.r7, .slice E.A2 E.n2 E.c2] 43) = W1 at *
  refine Calls.mono (vawake_any W1) ?_
  rintro en w1 ⟨rfl, hb⟩
  have HB1 := Lib.hid (HB0.out.next hb)
  clear hb HB0
  obtain ⟨f0, f1, f2, f3, f4, f5, f6, f7, f8, f9⟩ := HB1.out.env.cells
  go_wp2_with fail
  clear f0 f1 f2 f3 f4 f5 f6 f7 f8 f9
  have hg := great_any A0 len cap E w1
  rw [env_v] at hg
  refine Calls.mono hg ?_
  rintro en w2 ⟨rfl, hb⟩
  have HB2 := Lib.hid (HB1.out.next hb)
  clear hb HB1 hg
  by_cases hgr : 300 < len ∨ 100 < E.n1 ∨ 300 < E.n2
  · rw [decide_eq_true hgr]
    clear hgr
    go_wp2_with fail
    go_ret
    exact ⟨rfl, HB2.out.bel⟩
  rw [decide_eq_false hgr]
  have HL := Lib.hid (show len ≤ 300 by omega)
  clear hgr
  go_wp2_with fail
  refine Calls.mono (small_any A0 len cap L 300 w2 (HX.out.below HB2.out.bel) (fun _ => by have := HL.out; omega)) ?_
  rintro en w3 ⟨rfl, hb⟩
  have HB3 := Lib.hid (HB2.out.next hb)
  clear hb HB2
  rw [decide_eq_true (show (len : Int) ≤ 300 by have := HL.out; omega), Bool.true_and]
  by_cases hc : (Tm.chk L).1 = 0
  · rw [decide_eq_true hc]
    obtain ⟨h0, hok⟩ := HX.out.pos hc
    have HC := Lib.hid hc
    obtain ⟨p, hp⟩ : ∃ p, len - 1 = p := ⟨_, rfl⟩
    have hpl : (len : Int) - 1 = (p : Int) := by omega
    have hp2 : (p : Int) < len := by omega
    have HP := Lib.hid (show p < len by omega)
    have HPE := Lib.hid hp
    obtain ⟨bx, ox, rfl, hbx, hxx⟩ := (HX.out.below HB3.out.bel).nd.mem h0
    obtain ⟨x0, x1, _⟩ := hxx p HP.out
    have hl3 : (len : Int) ≤ 300 := by have := HL.out; omega
    clear hxx hok hp hc
    by_cases hw : (L.getD p Tm.z).w = 0
    · have HW := Lib.hid hw
      rw [hw] at x1
      clear hw
      have hwr : IntKind.u64.wrap (b : Int) = (b : Int) := by rw [IntKind.wrap_u64]; have := HBB.out; omega
      have HR0 := Lib.hid (own_new w3)
      have HX3 := Lib.hid ((HX.out.below HB3.out.bel).below (Below.box w3 (.cells #[] 36)))
      have HS3 := Lib.hid (show w3.heap.size ≤ (w3.alloc (.cells #[] 36)).heap.size by simp)
      have HBS := Lib.hid HB3.out.env.lt
      have HBI := Lib.hid (show 0 ≤ (b : Int) ∧ (b : Int) < 256 by have := HBB.out; omega)
      have HLW := Lib.hid (show (L.getD (L.length - 1) Tm.z).w = 0 by rw [HX.out.hlen, HPE.out]; exact HW.out)
      have HWF3 := Lib.hid (show ∀ x ∈ ([Vl.cst 64 (wh : Int), Vl.cst 8 (b : Int), ⟨24, 0, 0, (p : Int), (len : Int), (len : Int) + 1⟩] : List Tm.Nd), Tm.Wf x from fun x hx => by
        have := HWH.out; have := HBB.out; have := HL.out; have := HP.out
        simp only [List.mem_cons, List.not_mem_nil, or_false] at hx
        rcases hx with rfl | rfl | rfl <;> exact wf_mk (by omega) (by omega) (by omega) (by omega) (by omega) (by omega))
      have HWF2 := Lib.hid (show ∀ x ∈ ([Vl.cst 64 (k : Int), ⟨23, 8, 0, (len : Int) + 2, (len : Int) + 3, 0⟩] : List Tm.Nd), Tm.Wf x from fun x hx => by
        have := HK.out; have := HL.out
        simp only [List.mem_cons, List.not_mem_nil, or_false] at hx
        rcases hx with rfl | rfl <;> exact wf_mk (by omega) (by omega) (by omega) (by omega) (by omega) (by omega))
      have HM3 := Lib.hid (show L ++ [Vl.cst 64 (wh : Int), Vl.cst 8 (b : Int), ⟨24, 0, 0, (p : Int), (len : Int), (len : Int) + 1⟩] = Vl.putM L wh b by rw [Vl.putM, HX.out.hlen, HPE.out]; simp)
      have HM2 := Lib.hid (show Vl.putM L wh b ++ [Vl.cst 64 (k : Int), ⟨23, 8, 0, (len : Int) + 2, (len : Int) + 3, 0⟩] = Vl.putM2 L wh b k by rw [Vl.putM2, HX.out.hlen]; simp)
      have HWM2 := Lib.hid (show ∀ x ∈ Vl.putM2 L wh b k, Tm.Wf x from fun x hx => by
        rw [← HM2.out, ← HM3.out] at hx
        rcases List.mem_append.1 hx with h | h
        · rcases List.mem_append.1 h with h | h
          · exact HX.out.wf x h
          · exact HWF3.out x h
        · exact HWF2.out x h)
      have HWM := Lib.hid (show ∀ x ∈ Vl.putM L wh b, Tm.Wf x from fun x hx => by
        rw [← HM3.out] at hx
        rcases List.mem_append.1 hx with h | h
        · exact HX.out.wf x h
        · exact HWF3.out x h)
      go_wp2_with (at_builtin
                   first
                   | (with_reducible change wpList _ _ _ ({ dst := some 43, op := _, type := _, pos := _, after := _, guard := _ } :: _) _ _
                      refine wpList_apN (w := w3.alloc (.cells #[] 36)) rfl (.tmp 41) (.tmp 42) rfl w3.heap.size (some ⟨w3.heap.size, 0, none⟩) 0 0 [] rfl HR0.out (some ⟨bx, ox, none⟩) len cap L rfl HX3.out (by omega) HS3.out len (by omega) ?_
                      intro A1 cap1 w4 hrow hb4 hmv
                      have HR4 := Lib.hid hrow
                      have HB4 := Lib.hid ((Below.box w3 _).trans hb4)
                      clear hrow hb4 hmv)
                   | (with_reducible change wpList _ _ _ ({ dst := some 57, op := _, type := _, pos := _, after := _, guard := _ } :: _) _ _
                      refine wpList_apN (w := w4.alloc (.cells #[.int .i64 0, .int .i64 64, .int .u64 (wh : Int), .int .i64 0, .int .i64 0, .int .i64 0, .int .i64 0, .int .i64 8, .int .u64 (b : Int), .int .i64 0, .int .i64 0, .int .i64 0, .int .i64 24, .int .i64 0, .int .u64 0, .int .i64 (p : Int), .int .i64 (len : Int), .int .i64 ((len : Int) + 1)] 36)) rfl (.tmp 43) (.tmp 56) rfl w3.heap.size A1 len cap1 L rfl (World.ownsRow.alloc HR4.out _) (some ⟨w4.heap.size, 0, none⟩) 3 3 [Vl.cst 64 (wh : Int), Vl.cst 8 (b : Int), ⟨24, 0, 0, (p : Int), (len : Int), (len : Int) + 1⟩] rfl (NdSl.lit w4 [Vl.cst 64 (wh : Int), Vl.cst 8 (b : Int), ⟨24, 0, 0, (p : Int), (len : Int), (len : Int) + 1⟩] _ 3 rfl rfl (by omega) HWF3.out) (by omega) (Nat.le_trans HB4.out.size (by simp)) (len + 3) rfl ?_
                      intro A2 cap2 w5 hrow hb5 hmv
                      have hb6 : Below w3.heap.size w3 w5 := (HB4.out.alloc HB4.out.size _).trans hb5
                      have HBM := Lib.hid hb6
                      have HB5 := Lib.hid (HB3.out.next hb6)
                      obtain ⟨f0, f1, f2, f3, f4, f5, f6, f7, f8, f9⟩ := HB5.out.env.cells
                      have HR5 := Lib.hid hrow
                      clear hrow hb5 hmv hb6))
      clear f0 f1 f2 f3 f4 f5 f6 f7 f8 f9
      have hrow5 := HR5.out
      rw [HM3.out] at hrow5
      have HS5 := Lib.hid (NdSl.of_own hrow5 HWM.out)
      have HR5 := Lib.hid hrow5
      clear hrow5
      obtain ⟨c3, c5, y, z, hy, hz, ho, hzz⟩ := Vl.puts (e := e) (k := (k : Int)) HC.out HLW.out HBI.out (wh := (wh : Int)) (b := (b : Int))
      have HZB := Lib.hid (show 0 ≤ z ∧ z < 256 by have := Vl.byR_by (X := Vl.putM L wh b) (k := (k : Int)) HE.out.ok; rw [hz] at this; exact this)
      have hc1 := byte_any A2 (len + 3) cap2 (Vl.putM L wh b) E e k w5 HS5.out (HE.out.keep (Keep.of_below HB5.out.bel)) (by have := HL.out; omega) HK.out
      rw [env_v, hz] at hc1
      have HY := Lib.hid hy
      have HO := Lib.hid ho
      have HZZ := Lib.hid hzz
      clear c3 c5 hy hz ho hzz
      refine Calls.mono hc1 ?_
      rintro en w6 ⟨rfl, hb⟩
      have HB6 := Lib.hid (HB5.out.next hb)
      have HBN := Lib.hid (HBM.out.trans (hb.mono HBM.out.size))
      have HR6 := Lib.hid (own_below HR5.out hb)
      clear hb hc1
      obtain ⟨f0, f1, f2, f3, f4, f5, f6, f7, f8, f9⟩ := HB6.out.env.cells
      go_wp2_with fail
      clear f0 f1 f2 f3 f4 f5 f6 f7 f8 f9
      have hc1 := byte_any (some ⟨bx, ox, none⟩) len cap L E e k w6 (HX.out.below HB6.out.bel) (HE.out.keep (Keep.of_below HB6.out.bel)) (by have := HL.out; omega) HK.out
      rw [env_v, HY.out] at hc1
      refine Calls.mono hc1 ?_
      rintro en w7 ⟨rfl, hb⟩
      have HB7 := Lib.hid (HB6.out.next hb)
      have HR7 := Lib.hid (own_below HR6.out hb)
      have HBO := Lib.hid (HBN.out.trans (hb.mono HBN.out.size))
      have HS7 := Lib.hid HBO.out.size
      clear hb hc1
      go_wp2_with (at_builtin
                   refine wpList_apN (w := w7.alloc (.cells #[.int .i64 0, .int .i64 64, .int .u64 (k : Int), .int .i64 0, .int .i64 0, .int .i64 0, .int .i64 23, .int .i64 8, .int .u64 0, .int .i64 ((len : Int) + 2), .int .i64 ((len : Int) + 3), .int .i64 0] 36)) rfl (.tmp 72) (.tmp 81) rfl w3.heap.size A2 (len + 3) cap2 (Vl.putM L wh b) rfl (World.ownsRow.alloc HR7.out _) (some ⟨w7.heap.size, 0, none⟩) 2 2 [Vl.cst 64 (k : Int), ⟨23, 8, 0, (len : Int) + 2, (len : Int) + 3, 0⟩] rfl (NdSl.lit w7 [Vl.cst 64 (k : Int), ⟨23, 8, 0, (len : Int) + 2, (len : Int) + 3, 0⟩] _ 2 rfl rfl (by omega) HWF2.out) (by omega) (Nat.le_trans HS7.out (by simp)) (len + 5) (by omega) ?_
                   intro A3 cap3 w8 hrow hb8 hmv
                   have HR8 := Lib.hid hrow
                   have HB8 := Lib.hid (HB3.out.next ((HBO.out.alloc HBO.out.size _).trans hb8))
                   obtain ⟨f0, f1, f2, f3, f4, f5, f6, f7, f8, f9⟩ := HB8.out.env.cells
                   clear hrow hb8 hmv)
      clear f0 f1 f2 f3 f4 f5 f6 f7 f8 f9
      have hrow8 := HR8.out
      rw [HM2.out] at hrow8
      have hc1 := vof_any A3 (len + 5) cap3 (Vl.putM2 L wh b k) E e w8 (NdSl.of_own hrow8 HWM2.out) (HE.out.keep (Keep.of_below HB8.out.bel)) (by have := HL.out; omega)
      rw [env_v, HO.out] at hc1
      clear hrow8
      refine Calls.mono hc1 ?_
      rintro en w9 ⟨rfl, hb⟩
      have HB9 := Lib.hid (HB8.out.next hb)
      clear hb hc1
      have hzr : IntKind.u64.wrap z = z := by rw [IntKind.wrap_u64]; have := HZB.out; omega
      by_cases hkw : (k : Int) = (wh : Int)
      · have hz2 : z = (b : Int) := by rw [HZZ.out, if_pos hkw.symm]
        have hkb : ((k : Int) == (wh : Int)) = true := by simpa using hkw
        subst hz2
        clear hkw
        go_wp2_with fail
        go_ret
        exact ⟨rfl, HB9.out.bel⟩
      · have hz2 : z = y := by rw [HZZ.out, if_neg (fun h => hkw h.symm)]
        have hkb : ((k : Int) == (wh : Int)) = false := beq_eq_false_iff_ne.2 hkw
        subst hz2
        clear hkw
        go_wp2_with fail
        go_ret
        exact ⟨rfl, HB9.out.bel⟩
    · have hwb : ((L.getD p Tm.z).w != 0) = true := by simpa using hw
      obtain ⟨ww, hww⟩ : ∃ ww, (L.getD p Tm.z).w = ww := ⟨_, rfl⟩
      rw [hww] at hwb x1
      clear hw hww
      go_wp2_with fail
      go_ret
      exact ⟨rfl, HB3.out.bel⟩
  · rw [decide_eq_false hc]
    clear hc
    go_wp2_with fail
    go_ret
    exact ⟨rfl, HB3.out.bel⟩
theorem u8_nat {x : Int} (h : (Lit.int .u8 x).wf = true) : ∃ k : Nat, x = (k : Int) ∧ k < 256 := by
  have h3 : 0 ≤ x ∧ x ≤ 255 := by simpa [Lit.wf, IntKind.min, IntKind.max, IntKind.signed, IntKind.bits] using h
  exact ⟨x.toNat, by omega, by omega⟩
theorem vputs_any (A0 : Option Addr) (len cap : Nat) (L : List Tm.Nd) (E : EnV) (e : Vl.Env) (x y z : Int) (w : World) (hx : NdSl w A0 len cap L) (hE : EnIn w (fun _ => False) E e) (h1 : (Lit.int .u64 x).wf = true) (h2 : (Lit.int .u64 y).wf = true) (h3 : (Lit.int .u8 z).wf = true) :
    Calls Try.prog 5 #[.slice A0 len cap, E.v, .int .u64 x, .int .u64 y, .int .u8 z] w fun en w' => en = .returned (.bool true) ∧ Below w.heap.size w w' := by
  obtain ⟨a, rfl, ha⟩ := u64_nat h1
  obtain ⟨b, rfl, hb⟩ := u64_nat h2
  obtain ⟨c, rfl, hc⟩ := u8_nat h3
  exact vputs_walk A0 len cap L E e a b c w hx hE ha hb hc
end Go.Proofs.Ytdbcpnpcnkccaaa
