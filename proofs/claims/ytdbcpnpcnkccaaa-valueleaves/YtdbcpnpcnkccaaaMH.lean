/-
  Layer 7: contracts of with, leaf, ofArray, ofNumbers.
  Layer 7: contract of comesTo.
-/
import Derived.Test.YtdbcpnpcnkccaaaMF
import Derived.Laws.EntriesVeiled
import Derived.Test.YtdbcpnpcnkccaaaMG
import Derived.Test.YtdbcpnpcnkccaaaME
set_option linter.unusedSimpArgs false
set_option linter.unusedVariables false
namespace Go.Proofs.Ytdbcpnpcnkccaaa
set_option maxRecDepth 100000
open Go.RowKit

theorem Keep.set {F : Nat → Prop} (w : World) {g i : Nat} (h : F g) (x : Value) : Keep F w (w.setCell ⟨g, i, none⟩ x) := ⟨by simp, fun b _ hf => Below.heap_setCell _ _ _ _ (fun e => hf (by subst e; exact h))⟩
theorem Keep.trans {F : Nat → Prop} {a b c : World} (h : Keep F a b) (k : Keep F b c) : Keep F a c := ⟨Nat.le_trans h.size k.size, fun x hx hf => (k.block x (Nat.lt_of_lt_of_le hx h.size) hf).trans (h.block x hx hf)⟩

theorem OtIn.func {w : World} {F : Nat → Prop} {o : Value} {g : Int → Int} (h : OtIn w F o g) : ∃ fn cap, o = .func fn #[] cap := by
  rcases h with ⟨e, _⟩ | ⟨blk, _, _, _, _, e, _⟩
  · exact ⟨_, _, e⟩
  · exact ⟨_, _, e⟩
theorem Blk.at_new {W : World} {n : Nat} {cs : Array Value} {t : TypeId} (h : W.heap.size = n) : Blk (W.alloc (.cells cs t)) n t cs := h ▸ Blk.new W _ _
def WiP (F : Nat → Prop) (o : Value) (f : Int → Int) (w : World) (e : Ending) (w' : World) : Prop := ∃ p, e = .returned (.agg #[.pointer p, o]) ∧ ArIn w' F p o f ∧ Below w.heap.size w w'
set_option maxHeartbeats 2000000 in
theorem with_any (p : Option Addr) (o : Value) (f : Int → Int) (k : Nat) (b : Int) (F : Nat → Prop) (w : World) (h : ArIn w F p o f) (hF : ∀ b, F b → b < w.heap.size) (hk : k < 18446744073709551616) :
    Calls Try.prog 131 #[.agg #[.pointer p, o], .int .u64 k, .int .u8 b] w (WiP F o (fun x => if x = k then b else f x) w) := by
  obtain ⟨t, g, ht, ho, hf⟩ := h.ex
  obtain ⟨fn, cap, rfl⟩ := ho.func
  let G : Nat → Prop := fun b => F b ∨ (w.heap.size ≤ b ∧ b < w.heap.size + 2)
  have hm : ∀ b, G b → F b ∨ w.heap.size ≤ b := fun b h => h.imp id fun h => h.1
  have hB1 : Below w.heap.size w ((w.alloc (.cells #[.pointer p, .func fn #[] cap] 107)).alloc (.cells #[.pointer none, .nilFunc] 107)) := (Below.box _ _).trans ((Below.box _ _).mono (by simp))
  have HB1 := Lib.hid hB1
  have HT := Lib.hid (grown_in k b ⟨by omega, by omega⟩ t G p k ((w.alloc (.cells #[.pointer p, .func fn #[] cap] 107)).alloc (.cells #[.pointer none, .nilFunc] 107)) ((ht.more hm).below hB1) (fun b h => by
    have hs : ((w.alloc (.cells #[.pointer p, .func fn #[] cap] 107)).alloc (.cells #[.pointer none, .nilFunc] 107)).heap.size = w.heap.size + 2 := by simp
    rcases h with h | h
    · have := hF b h; omega
    · omega) (by omega) (by omega))
  have HO := Lib.hid (ho.more hm)
  have HF := Lib.hid hf
  clear hB1 ht ho hf h hF hm
  go_enter Try.func131, Try.ntmps131
  go_wp2_with fail
  refine HT.out.mono ?_
  rintro e w' ⟨q, rfl, hq, hbw⟩
  have b0 : Blk w' w.heap.size 107 #[.pointer p, .func fn #[] cap] := (hbw.block w.heap.size (by simp; omega)).trans (heap_alloc2_old w _ _)
  have b1 : Blk w' (w.heap.size + 1) 107 #[.pointer none, .nilFunc] := (hbw.block (w.heap.size + 1) (by simp)).trans (heap_alloc2_new w _ _)
  have c0 : w'.cell? ⟨w.heap.size, 0, none⟩ = some (.pointer p) := b0.c 0
  have c1 : w'.cell? ⟨w.heap.size, 1, none⟩ = some (.func fn #[] cap) := b0.c 1
  have d0 : w'.cell? ⟨w.heap.size + 1, 0, none⟩ = some (.pointer none) := b1.c 0
  have d1 : w'.cell? ⟨w.heap.size + 1, 1, none⟩ = some .nilFunc := b1.c 1
  have f0 := b0.fr 0
  have g0 := b1.fr 0
  have g1 := b1.fr 1
  have b2 : Blk (w'.setCell ⟨w.heap.size, 0, none⟩ (.pointer q)) (w.heap.size + 1) 107 #[.pointer none, .nilFunc] := (Below.heap_setCell _ _ _ _ (by simp)).trans b1
  have b3 : Blk ((w'.setCell ⟨w.heap.size, 0, none⟩ (.pointer q)).setCell ⟨w.heap.size + 1, 0, none⟩ (.pointer q)) (w.heap.size + 1) 107 #[.pointer q, .nilFunc] := b2.set (i := 0) _
  have e1 : ((w'.setCell ⟨w.heap.size, 0, none⟩ (.pointer q)).setCell ⟨w.heap.size + 1, 0, none⟩ (.pointer q)).cell? ⟨w.heap.size + 1, 1, none⟩ = some .nilFunc := b3.c 1
  have h1 := b3.fr 1
  have b4 : Blk (((w'.setCell ⟨w.heap.size, 0, none⟩ (.pointer q)).setCell ⟨w.heap.size + 1, 0, none⟩ (.pointer q)).setCell ⟨w.heap.size + 1, 1, none⟩ (.func fn #[] cap)) (w.heap.size + 1) 107 #[.pointer q, .func fn #[] cap] := b3.set (i := 1) _
  have HB4 := Lib.hid b4
  have HQ := Lib.hid hq
  have HB := Lib.hid hbw
  clear hq hbw b0 b1 b2 b3 b4
  go_wp2
  have k0 := HB4.out.c 0
  have k1 := HB4.out.c 1
  simp only [List.getElem?_toArray, List.getElem?_cons_zero, List.getElem?_cons_succ] at k0 k1
  refine bodyPost_ret (v := .agg #[.pointer q, .func fn #[] cap]) ?h1 rfl ?h2
  case h1 => simp [results, Try.results131, go_sem, k0, k1]
  case h2 =>
    refine ⟨q, rfl, ⟨t.grown k k b, g, ?_, ?_, fun x hx => ?_⟩, ?_⟩
    · have k1 : Keep G w' (w'.setCell ⟨w.heap.size, 0, none⟩ (.pointer q)) := Keep.set _ (.inr ⟨Nat.le_refl _, by omega⟩) _
      have k2 := k1.trans (Keep.set _ (g := w.heap.size + 1) (i := 0) (.inr ⟨by omega, by omega⟩) (.pointer q))
      have k3 := k2.trans (Keep.set _ (g := w.heap.size + 1) (i := 1) (.inr ⟨by omega, by omega⟩) (.func fn #[] cap))
      exact (HQ.out.keep k3).more fun b h => .inl (.inl h)
    · have k1 : Keep G w' (w'.setCell ⟨w.heap.size, 0, none⟩ (.pointer q)) := Keep.set _ (.inr ⟨Nat.le_refl _, by omega⟩) _
      have k2 := k1.trans (Keep.set _ (g := w.heap.size + 1) (i := 0) (.inr ⟨by omega, by omega⟩) (.pointer q))
      have k3 := k2.trans (Keep.set _ (g := w.heap.size + 1) (i := 1) (.inr ⟨by omega, by omega⟩) (.func fn #[] cap))
      exact (((HO.out.keep (Keep.of_below HB1.out)).keep (Keep.of_below HB.out)).keep k3).more fun b h => .inl (.inl h)
    · by_cases hxk : x = k
      · subst hxk
        rw [if_pos rfl, Vl.Tr.find_same]; rfl
      · rw [if_neg (by omega), Vl.Tr.find_other (by omega)]
        exact HF.out x hx
    · exact (((HB1.out.trans (HB.out.mono (by simp; omega))).setCell (Nat.le_refl _) _).setCell (by simp) _).setCell (by simp) _

/-- An environment as a value. -/
structure EnV where
  A1 : Option Addr
  n1 : Nat
  c1 : Nat
  r0 : Int
  r1 : Int
  r2 : Int
  r3 : Int
  r4 : Int
  r5 : Int
  r6 : Int
  r7 : Int
  A2 : Option Addr
  n2 : Nat
  c2 : Nat
abbrev EnV.v (E : EnV) : Value := .agg #[.slice E.A1 E.n1 E.c1, .int .u64 E.r0, .int .u64 E.r1, .int .u64 E.r2, .int .u64 E.r3, .int .u64 E.r4, .int .u64 E.r5, .int .u64 E.r6, .int .u64 E.r7, .slice E.A2 E.n2 E.c2]
structure EnIn (w : World) (F : Nat → Prop) (E : EnV) (e : Vl.Env) : Prop where
  inp : BtIn w F E.A1 E.n1 E.c1 e.inp
  regs : e.regs = [E.r0, E.r1, E.r2, E.r3, E.r4, E.r5, E.r6, E.r7]
  mem : BtIn w F E.A2 E.n2 E.c2 e.mem
  ok : e.Ok
theorem EnIn.keep {w w' : World} {F : Nat → Prop} {E : EnV} {e : Vl.Env} (h : EnIn w F E e) (hk : Keep F w w') : EnIn w' F E e := ⟨h.inp.keep hk, h.regs, h.mem.keep hk, h.ok⟩
theorem EnIn.more {w : World} {F G : Nat → Prop} (hF : ∀ b, G b → F b ∨ w.heap.size ≤ b) {E : EnV} {e : Vl.Env} (h : EnIn w F E e) : EnIn w G E e := ⟨h.inp.more hF, h.regs, h.mem.more hF, h.ok⟩

theorem Vl.By.wrap {l : List Int} (h : Vl.By l) (k : Int) : IntKind.u64.wrap (Vl.att l k) = Vl.att l k := by
  rw [IntKind.wrap_u64]
  exact Int.emod_eq_of_lt (h k.toNat).1 (by have := (h k.toNat).2; show l.getD k.toNat 0 < _; omega)
/-- What leaves come to. -/
def Vl.leafM (nd : Tm.Nd) (e : Vl.Env) : Vl.M :=
  if nd.op = 1 then .num (Vl.att e.inp nd.n) else if nd.op = 2 then .num (Vl.att e.regs nd.n) else if nd.op = 3 then .arr (Vl.att e.mem) else if nd.op = 4 then .arr (fun _ => 0) else .num nd.n
def VaP (F : Nat → Prop) (m : Vl.M) (w : World) (e : Ending) (w' : World) : Prop := ∃ v, e = .returned v ∧ VaIn w' F v m ∧ Below w.heap.size w w'
set_option maxHeartbeats 4000000 in
theorem leaf_any (nd : Tm.Nd) (E : EnV) (e : Vl.Env) (F : Nat → Prop) (w : World) (h : EnIn w F E e) (hF : ∀ b, F b → b < w.heap.size) (ho : 0 ≤ nd.op ∧ nd.op ≤ 4) (hn : 0 ≤ nd.n ∧ nd.n < 18446744073709551616) (h2 : nd.op = 2 → nd.n < 8) :
    Calls Try.prog 111 #[ndv nd, E.v] w (VaP F (Vl.leafM nd e) w) := by
  obtain ⟨op, v, n, a, b, c⟩ := nd
  obtain ⟨A1, n1, c1, r0, r1, r2, r3, r4, r5, r6, r7, A2, n2, c2⟩ := E
  dsimp only at ho hn h2
  have hmf : ∀ (fn : Fn) (first cap : Array Value) (w : World), (Instr.makeFunc fn first cap).run Try.prog w = .ok (.func fn first cap) w := fun _ _ _ _ => rfl
  have hB : Below w.heap.size w ((w.alloc (.cells #[.int .i64 op, .int .i64 v, .int .u64 n, .int .i64 a, .int .i64 b, .int .i64 c] 36)).alloc (.cells #[.slice A1 n1 c1, .int .u64 r0, .int .u64 r1, .int .u64 r2, .int .u64 r3, .int .u64 r4, .int .u64 r5, .int .u64 r6, .int .u64 r7, .slice A2 n2 c2] 43)) := (Below.box _ _).trans ((Below.box _ _).mono (by simp))
  have HB := Lib.hid hB
  have HE := Lib.hid h
  have HF := Lib.hid hF
  clear hB h hF
  have ho5 : op = 0 ∨ op = 1 ∨ op = 2 ∨ op = 3 ∨ op = 4 := by omega
  rcases ho5 with rfl | rfl | rfl | rfl | rfl
  · go_enter Try.func111, Try.ntmps111
    go_wp2_with fail
    go_ret
    exact ⟨_, rfl, rfl, HB.out⟩
  · obtain ⟨k, rfl⟩ := Int.eq_ofNat_of_zero_le hn.1
    have hwr := HE.out.ok.inp.wrap k
    have H1 := Lib.hid (byteOf_any A1 n1 c1 e.inp k _ ((HE.out.inp.keep (Keep.of_below HB.out)).r))
    go_enter Try.func111, Try.ntmps111
    go_wp2_with (go_at_call 128; refine H1.out.mono ?_; rintro e w' ⟨rfl, rfl⟩)
    go_ret
    exact ⟨_, rfl, rfl, HB.out⟩
  · have h2 := h2 rfl
    have hn8 : n = 0 ∨ n = 1 ∨ n = 2 ∨ n = 3 ∨ n = 4 ∨ n = 5 ∨ n = 6 ∨ n = 7 := by omega
    have hr := HE.out.regs
    clear h2 hn
    rcases hn8 with rfl | rfl | rfl | rfl | rfl | rfl | rfl | rfl
    all_goals
      have HR := Lib.hid hr
      clear hr
      go_enter Try.func111, Try.ntmps111
      go_wp2_with fail
      go_ret
      refine ⟨_, rfl, ?_, HB.out⟩
      show _ = _
      rw [Vl.att, HR.out]
      rfl
  · go_enter Try.func111, Try.ntmps111
    go_wp2_with fail
    go_ret
    have hB3 := HB.out.trans ((Below.box _ (.cells #[.slice A2 n2 c2] 40)).mono HB.out.size)
    refine ⟨_, rfl, ⟨none, _, rfl, ⟨.nil, Vl.att e.mem, rfl, .inr ⟨w.heap.size + 1 + 1, A2, n2, c2, e.mem, rfl, fun h => ?_, ?_, HE.out.mem.keep (Keep.of_below hB3), rfl⟩, fun _ _ => rfl⟩⟩, hB3⟩
    · have := HF.out _ h; omega
    · exact Blk.at_new (by simp)
  · go_enter Try.func111, Try.ntmps111
    go_wp2_with fail
    go_ret
    exact ⟨_, rfl, ⟨none, _, rfl, ⟨.nil, fun _ => 0, rfl, .inl ⟨rfl, rfl⟩, fun _ _ => rfl⟩⟩, HB.out⟩

set_option maxHeartbeats 2000000 in
theorem ofArray_get (p : Option Addr) (o : Value) (f : Int → Int) (k : Nat) (b : Int) (F : Nat → Prop) (w : World) (h : ArIn w F p o f) (hk : k < 18446744073709551616) (hf : 0 ≤ f k ∧ f k < 256) :
    Calls Try.prog 112 #[.int .i64 23, .agg #[.pointer p, o], .int .u64 k, .int .u64 b] w (VaP F (.num (f k)) w) := by
  have hB := Below.box w (.cells #[.pointer p, o] 107)
  have H1 := Lib.hid (byteAt_any p o f k F _ (h.keep (Keep.of_below hB)) hk)
  have HB := Lib.hid hB
  have hwr : IntKind.u64.wrap (f k) = f k := by rw [IntKind.wrap_u64]; exact Int.emod_eq_of_lt hf.1 (by omega)
  clear hB h
  go_enter Try.func112, Try.ntmps112
  go_wp2_with (go_at_call 53; refine H1.out.mono ?_; rintro e w' ⟨rfl, hb⟩; have HB2 := Lib.hid hb; clear hb)
  go_ret
  exact ⟨_, rfl, rfl, HB.out.trans (HB2.out.mono HB.out.size)⟩
set_option maxHeartbeats 2000000 in
theorem ofArray_put (p : Option Addr) (o : Value) (f : Int → Int) (k : Nat) (b : Nat) (F : Nat → Prop) (w : World) (h : ArIn w F p o f) (hF : ∀ b, F b → b < w.heap.size) (hk : k < 18446744073709551616) :
    Calls Try.prog 112 #[.int .i64 24, .agg #[.pointer p, o], .int .u64 k, .int .u64 b] w (VaP F (.arr (fun x => if x = k then (b : Int) % 256 else f x)) w) := by
  have hB := Below.box w (.cells #[.pointer p, o] 107)
  have hwr : IntKind.u8.wrap (b : Int) = (b : Int) % 256 := by rw [IntKind.wrap_u8]
  have H1 := Lib.hid (with_any p o f k ((b : Int) % 256) F _ (h.keep (Keep.of_below hB)) (fun b h => Nat.lt_of_lt_of_le (hF b h) hB.size) hk)
  have HB := Lib.hid hB
  clear hB h hF
  generalize (b : Int) % 256 = b8 at *
  go_enter Try.func112, Try.ntmps112
  go_wp2_with (go_at_call 131; refine H1.out.mono ?_; rintro e w' ⟨q, rfl, ha, hb⟩; have HA := Lib.hid ha; have HB2 := Lib.hid hb; clear hb ha)
  go_ret
  exact ⟨_, rfl, ⟨q, o, rfl, HA.out⟩, HB.out.trans (HB2.out.mono HB.out.size)⟩

/-- What an operation on numbers comes to, by its kids' values. -/
def Vl.numM (op w x y z : Int) : Int := if op = 6 then x else if op = 7 then x % 256 else if op = 22 then (if x = 1 then y else z) else Wd.app op w x y
theorem cut8 (x : Int) : Wd.cut 8 x = x % 256 := by
  have : Wd.pw (Wd.wid 8) = 256 := by decide
  rw [Wd.cut, this]
set_option maxHeartbeats 4000000 in
theorem ofNumbers_any (op v x y z : Int) (w : World) :
    Calls Try.prog 113 #[.int .i64 op, .int .i64 v, .agg #[.int .u64 x, .int .u64 y, .int .u64 z]] w fun e w' => e = .returned (.iface 103 (.int .u64 (Vl.numM op v x y z))) ∧ Below w.heap.size w w' := by
  have HB := Lib.hid (Below.box w (.cells #[.int .u64 x, .int .u64 y, .int .u64 z] 154))
  by_cases h6 : op = 6
  · subst h6
    go_enter Try.func113, Try.ntmps113
    go_wp2_with fail
    go_ret
    exact ⟨rfl, HB.out⟩
  by_cases h7 : op = 7
  · subst h7
    have hc := cut8 x
    go_enter Try.func113, Try.ntmps113
    go_wp2_with (go_at_call 32; refine (cut_any _ _ _).mono ?_; rintro e w' ⟨rfl, rfl⟩; rw [hc])
    go_ret
    exact ⟨rfl, HB.out⟩
  by_cases h22 : op = 22
  · subst h22
    by_cases hx : x = 1
    · subst hx
      go_enter Try.func113, Try.ntmps113
      go_wp2_with fail
      go_ret
      exact ⟨rfl, HB.out⟩
    · have e : Vl.numM 22 v x y z = z := by simp [Vl.numM, hx]
      rw [e]
      clear e
      have hx' : (x == 1) = false := by simp [hx]
      go_enter Try.func113, Try.ntmps113
      go_wp2_with fail
      go_ret
      exact ⟨rfl, HB.out⟩
  · have e : Vl.numM op v x y z = Wd.app op v x y := by rw [Vl.numM, if_neg h6, if_neg h7, if_neg h22]
    rw [e]
    clear e
    have g6 : (op == 6) = false := by simp [h6]
    have g7 : (op == 7) = false := by simp [h7]
    have g22 : (op == 22) = false := by simp [h22]
    clear h6 h7 h22
    go_enter Try.func113, Try.ntmps113
    go_wp2_with (go_at_call 33; refine (app_any _ _ _ _ _).mono ?_; rintro e w' ⟨rfl, nn, rfl⟩)
    go_ret
    exact ⟨rfl, HB.out.trans ((below_drewN (Below.refl _ _) nn).mono HB.out.size)⟩
end Go.Proofs.Ytdbcpnpcnkccaaa
namespace Go.Proofs.Ytdbcpnpcnkccaaa
set_option maxRecDepth 100000
open Go.RowKit

theorem toldN_any (n : Int) (w : World) : Calls Try.prog 153 #[.int .u64 n] w fun e w' => e = .returned (.int .u64 n) ∧ w = w' := by
  go_enter Try.func153, Try.ntmps153
  go_wp2
  go_ret
  exact ⟨rfl, rfl⟩
theorem toldA_any (p : Option Addr) (o : Value) (w : World) : Calls Try.prog 154 #[.agg #[.pointer p, o]] w fun e w' => e = .returned (.int .u64 0) ∧ w.alloc (.cells #[.pointer p, o] 107) = w' := by
  go_enter Try.func154, Try.ntmps154
  go_wp2
  go_ret
  exact ⟨rfl, rfl⟩
theorem asN_A (n : Int) (w : World) : (Instr.typeAssert (.iface 103 (.int .u64 n)) 100 107 true).run Try.prog w = .ok (.tuple #[.agg #[.pointer none, .nilFunc], .bool false]) w := by kernel_rfl
theorem asA_A (p : Option Addr) (o : Value) (w : World) : (Instr.typeAssert (.iface 107 (.agg #[.pointer p, o])) 100 107 true).run Try.prog w = .ok (.tuple #[.agg #[.pointer p, o], .bool true]) w := by kernel_rfl
theorem asN_N (n : Int) (w : World) : (Instr.typeAssert (.iface 103 (.int .u64 n)) 100 103 true).run Try.prog w = .ok (.tuple #[.int .u64 n, .bool true]) w := by kernel_rfl
theorem asA_N (p : Option Addr) (o : Value) (w : World) : (Instr.typeAssert (.iface 107 (.agg #[.pointer p, o])) 100 103 true).run Try.prog w = .ok (.tuple #[.int .u64 0, .bool false]) w := by kernel_rfl

/-- What is known so far. -/
structure KnIn (w : World) (F : Nat → Prop) (A : Option Addr) (len cap : Nat) (ms : Nat → Vl.M) : Prop where
  hle : len ≤ cap
  hcap : cap ≤ maxLen
  mem : 0 < len → ∃ b o, A = some ⟨b, o, none⟩ ∧ b < w.heap.size ∧ ∀ i, i < len → ∃ v, w.cell? ⟨b, o + i, none⟩ = some v ∧ VaIn w F v (ms i)

set_option maxHeartbeats 2000000 in
theorem comes0 (nd : Tm.Nd) (AX : Option Addr) (lx cx : Nat) (E : EnV) (e : Vl.Env) (A : Option Addr) (len cap : Nat) (F : Nat → Prop) (w : World) (h : EnIn w F E e) (hF : ∀ b, F b → b < w.heap.size)
    (ho : 0 ≤ nd.op ∧ nd.op ≤ 4) (hn : 0 ≤ nd.n ∧ nd.n < 18446744073709551616) (h2 : nd.op = 2 → nd.n < 8) :
    Calls Try.prog 78 #[ndv nd, .slice AX lx cx, E.v, .slice A len cap] w (VaP F (Vl.leafM nd e) w) := by
  have hk : Tm.kidn nd.op = 0 := by have := Tm.kidn_spec nd.op; omega
  obtain ⟨op, v, n, a, b, c⟩ := nd
  obtain ⟨A1, n1, c1, r0, r1, r2, r3, r4, r5, r6, r7, A2, n2, c2⟩ := E
  dsimp only at ho hn h2 hk
  have hB : Below w.heap.size w ((w.alloc (.cells #[.int .i64 op, .int .i64 v, .int .u64 n, .int .i64 a, .int .i64 b, .int .i64 c] 36)).alloc (.cells #[.slice A1 n1 c1, .int .u64 r0, .int .u64 r1, .int .u64 r2, .int .u64 r3, .int .u64 r4, .int .u64 r5, .int .u64 r6, .int .u64 r7, .slice A2 n2 c2] 43)) := (Below.box _ _).trans ((Below.box _ _).mono (by simp))
  have HL := Lib.hid (show Calls Try.prog 111 #[.agg #[.int .i64 op, .int .i64 v, .int .u64 n, .int .i64 a, .int .i64 b, .int .i64 c], .agg #[.slice A1 n1 c1, .int .u64 r0, .int .u64 r1, .int .u64 r2, .int .u64 r3, .int .u64 r4, .int .u64 r5, .int .u64 r6, .int .u64 r7, .slice A2 n2 c2]] _ _ from leaf_any ⟨op, v, n, a, b, c⟩ ⟨A1, n1, c1, r0, r1, r2, r3, r4, r5, r6, r7, A2, n2, c2⟩ e F _ (h.keep (Keep.of_below hB)) (fun b h => Nat.lt_of_lt_of_le (hF b h) hB.size) ho hn h2)
  have HB := Lib.hid hB
  have HK := Lib.hid hk
  clear hB h hF hn h2 ho hk
  generalize Vl.leafM ⟨op, v, n, a, b, c⟩ e = M at *
  go_enter Try.func78, Try.ntmps78
  go_wp2_with (first | (go_at_call 73; refine (kids_any _ _).mono ?_; rintro e w' ⟨rfl, rfl⟩; rw [HK.out]) | (go_at_call 111; refine HL.out.mono ?_; rintro e w' ⟨va, rfl, hv, hb⟩; have HV := Lib.hid hv; have HB2 := Lib.hid hb; clear hv hb))
  go_ret
  exact ⟨_, rfl, HV.out, HB.out.trans (HB2.out.mono HB.out.size)⟩

set_option maxHeartbeats 4000000 in
theorem comes1 (op v n b c : Int) (ia : Nat) (x vx : Int) (bx ox lx cx : Nat) (E : EnV) (bk ok len cap : Nat) (F : Nat → Prop) (w : World)
    (hk : Tm.kidn op = 1) (hA : ia < len) (q0 : w.cell? ⟨bk, ok + ia, none⟩ = some (.iface 103 (.int .u64 x))) (hbk : bk < w.heap.size) (hX : ia < lx) (s0 : w.cell? ⟨bx, ox + ia * 6 + 1, none⟩ = some (.int .i64 vx)) (hbx : bx < w.heap.size) :
    Calls Try.prog 78 #[.agg #[.int .i64 op, .int .i64 v, .int .u64 n, .int .i64 ia, .int .i64 b, .int .i64 c], .slice (some ⟨bx, ox, none⟩) lx cx, E.v, .slice (some ⟨bk, ok, none⟩) len cap] w (VaP F (.num (Vl.numM op vx x 0 0)) w) := by
  obtain ⟨A1, n1, c1, r0, r1, r2, r3, r4, r5, r6, r7, A2, n2, c2⟩ := E
  have HK := Lib.hid hk
  have hA' : (ia : Int) < len := by omega
  have hX' : (ia : Int) < lx := by omega
  have m1 : bk < w.heap.size + 1 := by omega
  have m2 : bx < w.heap.size + 1 := by omega
  have ta := asN_A x
  clear hk
  go_enter Try.func78, Try.ntmps78
  go_wp2_with (go_at_call 73; refine (kids_any _ _).mono ?_; rintro e w' ⟨rfl, rfl⟩; rw [HK.out])
  refine wp_loop_rounds 2 ?_
  rw [rounds_succ]; go_wp2_with (go_at_call 153; refine (toldN_any _ _).mono ?_; rintro e w' ⟨rfl, rfl⟩)
  rw [rounds_succ]; go_wp2_with fail
  refine still_tail 10 (by kernel_rfl) (by kernel_rfl) ?_
  simp only [List.take_succ_cons, List.take_zero, List.drop_succ_cons, List.drop_zero]
  repeat still_step
  refine wpStill_nil ?_
  go_wp2_with (go_at_call 113; refine (ofNumbers_any _ _ _ _ _ _).mono ?_; rintro e w' ⟨rfl, hb⟩; have HB2 := Lib.hid hb; clear hb)
  go_ret
  refine ⟨_, rfl, rfl, Below.trans ?_ (HB2.out.mono (by simp; try omega))⟩
  go_grown

set_option maxHeartbeats 8000000 in
theorem comes2 (op v n c : Int) (ia ib : Nat) (x y vx : Int) (bx ox lx cx : Nat) (E : EnV) (bk ok len cap : Nat) (F : Nat → Prop) (w : World)
    (hk : Tm.kidn op = 2) (hia : ia < len) (q0 : w.cell? ⟨bk, ok + ia, none⟩ = some (.iface 103 (.int .u64 x))) (hib : ib < len) (q1 : w.cell? ⟨bk, ok + ib, none⟩ = some (.iface 103 (.int .u64 y))) (hbk : bk < w.heap.size) (hX : ia < lx) (s0 : w.cell? ⟨bx, ox + ia * 6 + 1, none⟩ = some (.int .i64 vx)) (hbx : bx < w.heap.size) :
    Calls Try.prog 78 #[.agg #[.int .i64 op, .int .i64 v, .int .u64 n, .int .i64 (ia : Nat), .int .i64 (ib : Nat), .int .i64 c], .slice (some ⟨bx, ox, none⟩) lx cx, E.v, .slice (some ⟨bk, ok, none⟩) len cap] w (VaP F (.num (Vl.numM op vx x y 0)) w) := by
  obtain ⟨A1, n1, c1, r0, r1, r2, r3, r4, r5, r6, r7, A2, n2, c2⟩ := E
  have HK := Lib.hid hk
  have hia' : (ia : Int) < len := by omega
  have hib' : (ib : Int) < len := by omega
  have hX' : (ia : Int) < lx := by omega
  have m1 : bk < w.heap.size + 1 := by omega
  have m2 : bx < w.heap.size + 1 := by omega
  have ta := asN_A x
  clear hk
  go_enter Try.func78, Try.ntmps78
  go_wp2_with (go_at_call 73; refine (kids_any _ _).mono ?_; rintro e w' ⟨rfl, rfl⟩; rw [HK.out])
  refine wp_loop_rounds 3 ?_
  rw [rounds_succ]; go_wp2_with (go_at_call 153; refine (toldN_any _ _).mono ?_; rintro e w' ⟨rfl, rfl⟩)
  rw [rounds_succ]; go_wp2_with (go_at_call 153; refine (toldN_any _ _).mono ?_; rintro e w' ⟨rfl, rfl⟩)
  rw [rounds_succ]; go_wp2_with fail
  refine still_tail 10 (by kernel_rfl) (by kernel_rfl) ?_
  simp only [List.take_succ_cons, List.take_zero, List.drop_succ_cons, List.drop_zero]
  repeat still_step
  refine wpStill_nil ?_
  go_wp2_with (go_at_call 113; refine (ofNumbers_any _ _ _ _ _ _).mono ?_; rintro e w' ⟨rfl, hb⟩; have HB2 := Lib.hid hb; clear hb)
  go_ret
  refine ⟨_, rfl, rfl, Below.trans ?_ (HB2.out.mono (by simp; try omega))⟩
  go_grown

set_option maxHeartbeats 8000000 in
theorem comes3 (op v n : Int) (ia ib ic : Nat) (x y z vx : Int) (bx ox lx cx : Nat) (E : EnV) (bk ok len cap : Nat) (F : Nat → Prop) (w : World)
    (hk : Tm.kidn op = 3) (hia : ia < len) (q0 : w.cell? ⟨bk, ok + ia, none⟩ = some (.iface 103 (.int .u64 x))) (hib : ib < len) (q1 : w.cell? ⟨bk, ok + ib, none⟩ = some (.iface 103 (.int .u64 y))) (hic : ic < len) (q2 : w.cell? ⟨bk, ok + ic, none⟩ = some (.iface 103 (.int .u64 z))) (hbk : bk < w.heap.size) (hX : ia < lx) (s0 : w.cell? ⟨bx, ox + ia * 6 + 1, none⟩ = some (.int .i64 vx)) (hbx : bx < w.heap.size) :
    Calls Try.prog 78 #[.agg #[.int .i64 op, .int .i64 v, .int .u64 n, .int .i64 (ia : Nat), .int .i64 (ib : Nat), .int .i64 (ic : Nat)], .slice (some ⟨bx, ox, none⟩) lx cx, E.v, .slice (some ⟨bk, ok, none⟩) len cap] w (VaP F (.num (Vl.numM op vx x y z)) w) := by
  obtain ⟨A1, n1, c1, r0, r1, r2, r3, r4, r5, r6, r7, A2, n2, c2⟩ := E
  have HK := Lib.hid hk
  have hia' : (ia : Int) < len := by omega
  have hib' : (ib : Int) < len := by omega
  have hic' : (ic : Int) < len := by omega
  have hX' : (ia : Int) < lx := by omega
  have m1 : bk < w.heap.size + 1 := by omega
  have m2 : bx < w.heap.size + 1 := by omega
  have ta := asN_A x
  clear hk
  go_enter Try.func78, Try.ntmps78
  go_wp2_with (go_at_call 73; refine (kids_any _ _).mono ?_; rintro e w' ⟨rfl, rfl⟩; rw [HK.out])
  refine wp_loop_rounds 4 ?_
  rw [rounds_succ]; go_wp2_with (go_at_call 153; refine (toldN_any _ _).mono ?_; rintro e w' ⟨rfl, rfl⟩)
  rw [rounds_succ]; go_wp2_with (go_at_call 153; refine (toldN_any _ _).mono ?_; rintro e w' ⟨rfl, rfl⟩)
  rw [rounds_succ]; go_wp2_with (go_at_call 153; refine (toldN_any _ _).mono ?_; rintro e w' ⟨rfl, rfl⟩)
  rw [rounds_succ]; go_wp2_with fail
  refine still_tail 10 (by kernel_rfl) (by kernel_rfl) ?_
  simp only [List.take_succ_cons, List.take_zero, List.drop_succ_cons, List.drop_zero]
  repeat still_step
  refine wpStill_nil ?_
  go_wp2_with (go_at_call 113; refine (ofNumbers_any _ _ _ _ _ _).mono ?_; rintro e w' ⟨rfl, hb⟩; have HB2 := Lib.hid hb; clear hb)
  go_ret
  refine ⟨_, rfl, rfl, Below.trans ?_ (HB2.out.mono (by simp; try omega))⟩
  go_grown
end Go.Proofs.Ytdbcpnpcnkccaaa
