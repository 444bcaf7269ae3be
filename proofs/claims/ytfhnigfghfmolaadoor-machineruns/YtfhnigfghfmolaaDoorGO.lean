/-
  The reference's Step, of any state.
-/
import Derived.Test.YtfhnigfghfmolaaDoorGN
import Derived.Test.YtfhnigfghfmolaaDoorGL
set_option linter.unusedSimpArgs false
set_option linter.unusedVariables false
namespace Go.Proofs.YtfhnigfghfmolaaDoor
set_option maxRecDepth 100000
open Go.RowKit

namespace Mc
theorem step_of {p : Im.Pic} {xs : List Int} {s : St} {i : Im.I5} (hi : ins p s = i) {s1 : St} {nx : Int} (ha : act p xs i s (s.pl + 1) = (s1, nx, 0)) : step p xs s = ({ s1 with pl := nx }, 0) := by
  unfold step; rw [hi, ha]; rfl
theorem step_end {p : Im.Pic} {xs : List Int} {s : St} {i : Im.I5} (hi : ins p s = i) {s1 : St} {nx en : Int} (ha : act p xs i s (s.pl + 1) = (s1, nx, en)) (hne : en ≠ 0) : step p xs s = (s, en) := by
  unfold step; rw [hi, ha]; exact if_neg hne
theorem last_get : ∀ (l : List Int) (j : Nat), l.length = j + 1 → l.getLastD 0 = l.getD j 0
  | [], _, h => by cases h
  | [x], 0, _ => rfl
  | x :: y :: r, 0, h => by simp at h
  | x :: y :: r, j + 1, h => by
    have := last_get (y :: r) j (by simpa using h)
    simpa [List.getLastD] using this
end Mc
theorem svR_get (pl z0 z1 z2 z3 z4 z5 z6 z7 : Int) (M O : Value) : ∀ (j : Nat), j < 8 → (#[.int .i64 pl, .int .u64 z0, .int .u64 z1, .int .u64 z2, .int .u64 z3, .int .u64 z4, .int .u64 z5, .int .u64 z6, .int .u64 z7, M, O] : Array Value)[1 + j]? = some (.int .u64 (([z0, z1, z2, z3, z4, z5, z6, z7] : List Int).getD j 0))
  | 0, _ => rfl
  | 1, _ => rfl
  | 2, _ => rfl
  | 3, _ => rfl
  | 4, _ => rfl
  | 5, _ => rfl
  | 6, _ => rfl
  | 7, _ => rfl
  | j + 8, h => absurd h (by omega)

theorem rflow_branch (mem stk inp : Int) (Ad : Option Addr) (ld cd : Nat) (Af : Option Addr) (lf cf : Nat) (Ac : Option Addr) (lc cc : Nat) (a : Nat) (b c m : Int) (pl : Int) (z0 z1 z2 z3 z4 z5 z6 z7 : Int) (MA : Option Addr) (mn mc : Nat) (OA : Option Addr) (on occ : Nat) (w : World) (ha : a < 8) (m0 : 0 ≤ m) (m1 : m < 1000000) (p0 : 0 ≤ pl) (p1 : pl < 1000000) :
    Calls Tryd.prog 39 #[.agg #[.int .i64 mem, .int .i64 stk, .int .i64 inp, .slice Ad ld cd, .slice Af lf cf, .slice Ac lc cc], .agg #[.int .i64 22, .int .i64 (a : Int), .int .i64 b, .int .i64 c, .int .u64 m], .agg #[.int .i64 pl, .int .u64 z0, .int .u64 z1, .int .u64 z2, .int .u64 z3, .int .u64 z4, .int .u64 z5, .int .u64 z6, .int .u64 z7, .slice MA mn mc, .slice OA on occ]] w fun e w' => e = .returned (.tuple #[.agg #[.int .i64 (if ([z0, z1, z2, z3, z4, z5, z6, z7] : List Int).getD a 0 = 0 then pl + 1 else m), .int .u64 z0, .int .u64 z1, .int .u64 z2, .int .u64 z3, .int .u64 z4, .int .u64 z5, .int .u64 z6, .int .u64 z7, .slice MA mn mc, .slice OA on occ], .int .i64 0]) ∧ Below w.heap.size w w' := by
  match a, ha with
  | 0, _ =>
    by_cases hz : z0 = 0
    · rw [if_pos (show ([z0, z1, z2, z3, z4, z5, z6, z7] : List Int).getD 0 0 = 0 from hz)]
      exact rflow_by_0 mem stk inp Ad ld cd Af lf cf Ac lc cc pl z0 z1 z2 z3 z4 z5 z6 z7 MA mn mc OA on occ b c m w p0 p1 hz
    · rw [if_neg (show ¬ ([z0, z1, z2, z3, z4, z5, z6, z7] : List Int).getD 0 0 = 0 from hz)]
      exact rflow_on_0 mem stk inp Ad ld cd Af lf cf Ac lc cc pl z0 z1 z2 z3 z4 z5 z6 z7 MA mn mc OA on occ b c m w m0 m1 hz
  | 1, _ =>
    by_cases hz : z1 = 0
    · rw [if_pos (show ([z0, z1, z2, z3, z4, z5, z6, z7] : List Int).getD 1 0 = 0 from hz)]
      exact rflow_by_1 mem stk inp Ad ld cd Af lf cf Ac lc cc pl z0 z1 z2 z3 z4 z5 z6 z7 MA mn mc OA on occ b c m w p0 p1 hz
    · rw [if_neg (show ¬ ([z0, z1, z2, z3, z4, z5, z6, z7] : List Int).getD 1 0 = 0 from hz)]
      exact rflow_on_1 mem stk inp Ad ld cd Af lf cf Ac lc cc pl z0 z1 z2 z3 z4 z5 z6 z7 MA mn mc OA on occ b c m w m0 m1 hz
  | 2, _ =>
    by_cases hz : z2 = 0
    · rw [if_pos (show ([z0, z1, z2, z3, z4, z5, z6, z7] : List Int).getD 2 0 = 0 from hz)]
      exact rflow_by_2 mem stk inp Ad ld cd Af lf cf Ac lc cc pl z0 z1 z2 z3 z4 z5 z6 z7 MA mn mc OA on occ b c m w p0 p1 hz
    · rw [if_neg (show ¬ ([z0, z1, z2, z3, z4, z5, z6, z7] : List Int).getD 2 0 = 0 from hz)]
      exact rflow_on_2 mem stk inp Ad ld cd Af lf cf Ac lc cc pl z0 z1 z2 z3 z4 z5 z6 z7 MA mn mc OA on occ b c m w m0 m1 hz
  | 3, _ =>
    by_cases hz : z3 = 0
    · rw [if_pos (show ([z0, z1, z2, z3, z4, z5, z6, z7] : List Int).getD 3 0 = 0 from hz)]
      exact rflow_by_3 mem stk inp Ad ld cd Af lf cf Ac lc cc pl z0 z1 z2 z3 z4 z5 z6 z7 MA mn mc OA on occ b c m w p0 p1 hz
    · rw [if_neg (show ¬ ([z0, z1, z2, z3, z4, z5, z6, z7] : List Int).getD 3 0 = 0 from hz)]
      exact rflow_on_3 mem stk inp Ad ld cd Af lf cf Ac lc cc pl z0 z1 z2 z3 z4 z5 z6 z7 MA mn mc OA on occ b c m w m0 m1 hz
  | 4, _ =>
    by_cases hz : z4 = 0
    · rw [if_pos (show ([z0, z1, z2, z3, z4, z5, z6, z7] : List Int).getD 4 0 = 0 from hz)]
      exact rflow_by_4 mem stk inp Ad ld cd Af lf cf Ac lc cc pl z0 z1 z2 z3 z4 z5 z6 z7 MA mn mc OA on occ b c m w p0 p1 hz
    · rw [if_neg (show ¬ ([z0, z1, z2, z3, z4, z5, z6, z7] : List Int).getD 4 0 = 0 from hz)]
      exact rflow_on_4 mem stk inp Ad ld cd Af lf cf Ac lc cc pl z0 z1 z2 z3 z4 z5 z6 z7 MA mn mc OA on occ b c m w m0 m1 hz
  | 5, _ =>
    by_cases hz : z5 = 0
    · rw [if_pos (show ([z0, z1, z2, z3, z4, z5, z6, z7] : List Int).getD 5 0 = 0 from hz)]
      exact rflow_by_5 mem stk inp Ad ld cd Af lf cf Ac lc cc pl z0 z1 z2 z3 z4 z5 z6 z7 MA mn mc OA on occ b c m w p0 p1 hz
    · rw [if_neg (show ¬ ([z0, z1, z2, z3, z4, z5, z6, z7] : List Int).getD 5 0 = 0 from hz)]
      exact rflow_on_5 mem stk inp Ad ld cd Af lf cf Ac lc cc pl z0 z1 z2 z3 z4 z5 z6 z7 MA mn mc OA on occ b c m w m0 m1 hz
  | 6, _ =>
    by_cases hz : z6 = 0
    · rw [if_pos (show ([z0, z1, z2, z3, z4, z5, z6, z7] : List Int).getD 6 0 = 0 from hz)]
      exact rflow_by_6 mem stk inp Ad ld cd Af lf cf Ac lc cc pl z0 z1 z2 z3 z4 z5 z6 z7 MA mn mc OA on occ b c m w p0 p1 hz
    · rw [if_neg (show ¬ ([z0, z1, z2, z3, z4, z5, z6, z7] : List Int).getD 6 0 = 0 from hz)]
      exact rflow_on_6 mem stk inp Ad ld cd Af lf cf Ac lc cc pl z0 z1 z2 z3 z4 z5 z6 z7 MA mn mc OA on occ b c m w m0 m1 hz
  | 7, _ =>
    by_cases hz : z7 = 0
    · rw [if_pos (show ([z0, z1, z2, z3, z4, z5, z6, z7] : List Int).getD 7 0 = 0 from hz)]
      exact rflow_by_7 mem stk inp Ad ld cd Af lf cf Ac lc cc pl z0 z1 z2 z3 z4 z5 z6 z7 MA mn mc OA on occ b c m w p0 p1 hz
    · rw [if_neg (show ¬ ([z0, z1, z2, z3, z4, z5, z6, z7] : List Int).getD 7 0 = 0 from hz)]
      exact rflow_on_7 mem stk inp Ad ld cd Af lf cf Ac lc cc pl z0 z1 z2 z3 z4 z5 z6 z7 MA mn mc OA on occ b c m w m0 m1 hz
  | j + 8, h => exact absurd h (by omega)

theorem SubR.still {pl : Int} {rg mm op : List Int} {z0 z1 z2 z3 z4 z5 z6 z7 : Int} {MA : Option Addr} {mn mc : Nat} {OA : Option Addr} {on occ : Nat} {en : Int} {w : World} (hr : rg = [z0, z1, z2, z3, z4, z5, z6, z7]) (hml : mm.length = mn) (hol : op.length = on) {f : Nat} {args : Array Value}
    (h : Calls Tryd.prog f args w fun e w' => e = .returned (.tuple #[.agg #[.int .i64 pl, .int .u64 z0, .int .u64 z1, .int .u64 z2, .int .u64 z3, .int .u64 z4, .int .u64 z5, .int .u64 z6, .int .u64 z7, .slice MA mn mc, .slice OA on occ], .int .i64 en]) ∧ Below w.heap.size w w') : Calls Tryd.prog f args w (SubR ⟨pl, rg, mm, op⟩ ⟨pl, rg, mm, op⟩ MA mc OA occ en w) :=
  h.mono fun e w' ⟨he, hb⟩ => ⟨_, he, ⟨MA, mc, OA, occ, by subst hr; rw [← hml, ← hol]; rfl, .inl ⟨rfl, rfl, rfl⟩, .inl ⟨rfl, rfl, rfl⟩⟩, hb⟩
/-- The same, at another place. -/
theorem SubR.goes {pl pl' : Int} {rg mm op : List Int} {z0 z1 z2 z3 z4 z5 z6 z7 : Int} {MA : Option Addr} {mn mc : Nat} {OA : Option Addr} {on occ : Nat} {en : Int} {w : World} (hr : rg = [z0, z1, z2, z3, z4, z5, z6, z7]) (hml : mm.length = mn) (hol : op.length = on) {f : Nat} {args : Array Value}
    (h : Calls Tryd.prog f args w fun e w' => e = .returned (.tuple #[.agg #[.int .i64 pl', .int .u64 z0, .int .u64 z1, .int .u64 z2, .int .u64 z3, .int .u64 z4, .int .u64 z5, .int .u64 z6, .int .u64 z7, .slice MA mn mc, .slice OA on occ], .int .i64 en]) ∧ Below w.heap.size w w') : Calls Tryd.prog f args w (SubR ⟨pl, rg, mm, op⟩ ⟨pl', rg, mm, op⟩ MA mc OA occ en w) :=
  h.mono fun e w' ⟨he, hb⟩ => ⟨_, he, ⟨MA, mc, OA, occ, by subst hr; rw [← hml, ← hol]; rfl, .inl ⟨rfl, rfl, rfl⟩, .inl ⟨rfl, rfl, rfl⟩⟩, hb⟩

set_option maxRecDepth 20000 in
set_option maxHeartbeats 3200000 in
theorem rStep_any (H : Hd) (s : Mc.St) (MA : Option Addr) (mn mc : Nat) (OA : Option Addr) (on occ : Nat) (w : World) (HA : HdAt w H) (hR : Mc.R H.p) (hok : Mc.Ok H.p s) (hlM : H.li < 1000000) (hm : BySl w MA mn mc s.mm) (hp : InSl w OA on occ s.op) :
    Calls Tryd.prog 20 #[.agg #[.int .i64 H.mem, .int .i64 H.stk, .int .i64 H.inp, .slice H.Ad H.ld H.cd, .slice H.Af H.lf H.cf, .slice H.Ac H.lc H.cc], .slice H.Ai H.li H.ci, .agg (stC s (.slice MA mn mc) (.slice OA on occ))] w (SubR s (Mc.step H.p H.xs s).1 MA mc OA occ (Mc.step H.p H.xs s).2 w) := by
  obtain ⟨mem, stk, inp, Ad, ld, cd, Af, lf, cf, Ac, lc, cc, Ai, li, ci, P, xs⟩ := H
  obtain ⟨pl, rg, mm, op⟩ := s
  obtain ⟨z0, z1, z2, z3, z4, z5, z6, z7, rfl⟩ : ∃ z0 z1 z2 z3 z4 z5 z6 z7, rg = [z0, z1, z2, z3, z4, z5, z6, z7] := ⟨_, _, _, _, _, _, _, _, Mc.rg8 rg hok.rl⟩
  obtain ⟨k, rfl⟩ : ∃ k : Nat, pl = k := Int.eq_ofNat_of_zero_le hok.p0
  obtain ⟨himg, he0, he1, he2, hinp⟩ := HA
  simp only at himg he0 he1 he2 hinp hR hlM hm hp
  have hC := hR.cnt
  have hcl := himg.c.hlen
  have hkl : k < P.cs.length := by have := hok.p1; simp only at this; omega
  have hkl' : k < lc := by omega
  have hc256 : P.cs.length ≤ 256 := by have := hC.2.2.2.2.2.1; omega
  have hkM : k < 1000000 := by omega
  have hml := hm.hlen
  have hol := hp.hlen
  have hxl := hinp.hlen
  obtain ⟨bc, oc, rfl, hbc, hcc⟩ := himg.c.mem (by omega)
  have hins := hcc k hkl'
  have hbad := hR.bad k hkl
  have hld := right_leads hR hkl
  have hmr := himg.c.rng k
  obtain ⟨i, hi⟩ : ∃ i, P.cs.getD k Im.z5 = i := ⟨_, rfl⟩
  rw [hi] at hins hbad hld hmr
  have hii : Mc.ins P ⟨(k : Int), [z0, z1, z2, z3, z4, z5, z6, z7], mm, op⟩ = i := hi
  obtain ⟨o, a, b, c, m⟩ := i
  have hbad : Cd.bad o a b c m = -1 := hbad
  have hmr : 0 ≤ m ∧ m < 18446744073709551616 := hmr
  have hld : (o = 21 ∨ o = 22 → m < P.cs.length) ∧ (o = 23 → m < P.fs.length) := hld
  obtain ⟨o0, o1, a0, a1, b0, b1, c0, c1⟩ := Cd.bad_none hbad
  obtain ⟨n, rfl⟩ := Int.eq_ofNat_of_zero_le o0
  obtain ⟨a, rfl⟩ := Int.eq_ofNat_of_zero_le a0
  obtain ⟨b, rfl⟩ := Int.eq_ofNat_of_zero_le b0
  obtain ⟨c, rfl⟩ := Int.eq_ofNat_of_zero_le c0
  have ha : a < 8 := by omega
  have hb : b < 8 := by omega
  have hn : n < 26 := by omega
  have hc8 : c ≤ 8 := by omega
  have key : ∀ (k : Nat), n = k → Cd.kc k = 1 → c < 8 := fun k e hk => by
    have := bad_c hbad (by rw [e]; simpa using hk)
    omega
  have hc17 : n = 17 ∨ n = 18 → 0 < c := fun e => by
    rcases Nat.eq_zero_or_pos c with h0 | h0
    · rcases e with rfl | rfl <;> (rw [h0] at hbad; exact absurd (bad_w hbad rfl) (by decide))
    · exact h0
  have hrv : ∀ j : Nat, Mc.rv ⟨(k : Int), [z0, z1, z2, z3, z4, z5, z6, z7], mm, op⟩ (j : Int) = ([z0, z1, z2, z3, z4, z5, z6, z7] : List Int).getD j 0 := fun j => rv_nat _ j
  have hrr : ∀ j : Nat, 0 ≤ ([z0, z1, z2, z3, z4, z5, z6, z7] : List Int).getD j 0 ∧ ([z0, z1, z2, z3, z4, z5, z6, z7] : List Int).getD j 0 < 18446744073709551616 := fun j => by rw [← hrv j]; exact Mc.rv_rng hok.rr _
  have hreg := svR_get (k : Int) z0 z1 z2 z3 z4 z5 z6 z7 (.slice MA mn mc) (.slice OA on occ)
  have hmn : mn ≤ 1000 := by have h1 : (mm.length : Int) = P.mem := hok.ml; have := hC.1.2; omega
  have hon : on ≤ 1000 := by have h1 : (op.length : Int) ≤ P.stk := hok.ol; have := hC.2.1; omega
  have hk0 : (0 : Int) ≤ (k : Int) := by omega
  have hk1 : (k : Int) < 1000000 := by omega
  match n, hn with
  | 0, _ =>
    have e : Mc.act P xs ⟨((0 : Nat) : Int), (a : Int), (b : Int), (c : Int), m⟩ ⟨(k : Int), [z0, z1, z2, z3, z4, z5, z6, z7], mm, op⟩ ((k : Int) + 1) = (⟨(k : Int), [z0, z1, z2, z3, z4, z5, z6, z7], mm, op⟩, (k : Int) + 1, 1) := by simp [Mc.act]
    rw [Mc.step_end hii e (by decide)]
    exact SubR.still rfl hml hol (rstep_end0 mem stk inp Ad ld cd Af lf cf bc oc lc cc Ai li ci k (a : Int) (b : Int) (c : Int) m z0 z1 z2 z3 z4 z5 z6 z7 MA mn mc OA on occ w hkl' hbc hins)
  | 25, _ =>
    have e : Mc.act P xs ⟨((25 : Nat) : Int), (a : Int), (b : Int), (c : Int), m⟩ ⟨(k : Int), [z0, z1, z2, z3, z4, z5, z6, z7], mm, op⟩ ((k : Int) + 1) = (⟨(k : Int), [z0, z1, z2, z3, z4, z5, z6, z7], mm, op⟩, (k : Int) + 1, 6) := by simp [Mc.act]
    rw [Mc.step_end hii e (by decide)]
    exact SubR.still rfl hml hol (rstep_end25 mem stk inp Ad ld cd Af lf cf bc oc lc cc Ai li ci k (a : Int) (b : Int) (c : Int) m z0 z1 z2 z3 z4 z5 z6 z7 MA mn mc OA on occ w hkl' hbc hins)
  | 1, _ =>
    have e : Mc.act P xs ⟨((1 : Nat) : Int), (a : Int), (b : Int), (c : Int), m⟩ ⟨(k : Int), [z0, z1, z2, z3, z4, z5, z6, z7], mm, op⟩ ((k : Int) + 1) = (Mc.wr ⟨(k : Int), [z0, z1, z2, z3, z4, z5, z6, z7], mm, op⟩ ⟨((1 : Nat) : Int), (a : Int), (b : Int), (c : Int), m⟩ m, (k : Int) + 1, 0) := by simp [Mc.act]
    rw [Mc.step_of hii e]
    exact rstep_set mem stk inp Ad ld cd Af lf cf bc oc lc cc Ai li ci k a ha mm op (b : Int) (c : Int) m z0 z1 z2 z3 z4 z5 z6 z7 MA mn mc OA on occ w hkl' hbc hins hml hol hkM
  | 2, _ =>
    have e : Mc.act P xs ⟨((2 : Nat) : Int), (a : Int), (b : Int), (c : Int), m⟩ ⟨(k : Int), [z0, z1, z2, z3, z4, z5, z6, z7], mm, op⟩ ((k : Int) + 1) = (Mc.wr ⟨(k : Int), [z0, z1, z2, z3, z4, z5, z6, z7], mm, op⟩ ⟨((2 : Nat) : Int), (a : Int), (b : Int), (c : Int), m⟩ (([z0, z1, z2, z3, z4, z5, z6, z7] : List Int).getD b 0), (k : Int) + 1, 0) := by rw [← hrv b]; simp [Mc.act]
    rw [Mc.step_of hii e]
    exact rstep_copy mem stk inp Ad ld cd Af lf cf bc oc lc cc Ai li ci k a ha mm op b hb (c : Int) m _ z0 z1 z2 z3 z4 z5 z6 z7 MA mn mc OA on occ w hkl' hbc hins hml hol hkM (hreg b hb)
  | 17, _ =>
    have hc0 := hc17 (.inl rfl)
    obtain ⟨t, had⟩ : ∃ t : Nat, Mc.ad ⟨(k : Int), [z0, z1, z2, z3, z4, z5, z6, z7], mm, op⟩ ⟨((17 : Nat) : Int), (a : Int), (b : Int), (c : Int), m⟩ = t := Int.eq_ofNat_of_zero_le (Int.emod_nonneg _ (by decide))
    have hat : (([z0, z1, z2, z3, z4, z5, z6, z7] : List Int).getD b 0 + m) % 18446744073709551616 = (t : Int) := by rw [← hrv b]; exact had
    by_cases ht : t + c ≤ mm.length
    · have hth : Mc.there ⟨(k : Int), [z0, z1, z2, z3, z4, z5, z6, z7], mm, op⟩ ⟨((17 : Nat) : Int), (a : Int), (b : Int), (c : Int), m⟩ = true := by unfold Mc.there; rw [had]; simp only [decide_eq_true_eq]; show (t : Int) + (c : Int) ≤ (mm.length : Int); omega
      have hlo : Mc.lod ⟨(k : Int), [z0, z1, z2, z3, z4, z5, z6, z7], mm, op⟩ ⟨((17 : Nat) : Int), (a : Int), (b : Int), (c : Int), m⟩ = Mc.le ((mm.drop t).take c) := by unfold Mc.lod; rw [had]; rfl
      have e : Mc.act P xs ⟨((17 : Nat) : Int), (a : Int), (b : Int), (c : Int), m⟩ ⟨(k : Int), [z0, z1, z2, z3, z4, z5, z6, z7], mm, op⟩ ((k : Int) + 1) = (Mc.wr ⟨(k : Int), [z0, z1, z2, z3, z4, z5, z6, z7], mm, op⟩ ⟨((17 : Nat) : Int), (a : Int), (b : Int), (c : Int), m⟩ (Mc.le ((mm.drop t).take c)), (k : Int) + 1, 0) := by
        have e0 : Mc.act P xs ⟨((17 : Nat) : Int), (a : Int), (b : Int), (c : Int), m⟩ ⟨(k : Int), [z0, z1, z2, z3, z4, z5, z6, z7], mm, op⟩ ((k : Int) + 1) = (if Mc.there ⟨(k : Int), [z0, z1, z2, z3, z4, z5, z6, z7], mm, op⟩ ⟨((17 : Nat) : Int), (a : Int), (b : Int), (c : Int), m⟩ = true then (Mc.wr ⟨(k : Int), [z0, z1, z2, z3, z4, z5, z6, z7], mm, op⟩ ⟨((17 : Nat) : Int), (a : Int), (b : Int), (c : Int), m⟩ (Mc.lod ⟨(k : Int), [z0, z1, z2, z3, z4, z5, z6, z7], mm, op⟩ ⟨((17 : Nat) : Int), (a : Int), (b : Int), (c : Int), m⟩), (k : Int) + 1, 0) else (⟨(k : Int), [z0, z1, z2, z3, z4, z5, z6, z7], mm, op⟩, (k : Int) + 1, 2)) := rfl
        rw [e0, if_pos hth, hlo]
      rw [Mc.step_of hii e]
      refine rstep_sub17 mem stk inp Ad ld cd Af lf cf bc oc lc cc Ai li ci k (a : Int) (b : Int) (c : Int) m mm op _ _ z0 z1 z2 z3 z4 z5 z6 z7 MA mn mc OA on occ w hkl' hbc hins (fun W hW => (rmem_load m a b t c (k : Int) z0 z1 z2 z3 z4 z5 z6 z7 MA mn mc OA on occ mm op _ W ha hb (hreg b hb) hat hmn hc8 (by omega) (hm.below hW) hk0 hk1).mono ?_)
      rintro e w' ⟨rfl, hb'⟩
      exact ⟨_, rfl, ⟨MA, mc, OA, occ, by rw [← hml, ← hol]; rfl, .inl ⟨rfl, rfl, rfl⟩, .inl ⟨rfl, rfl, rfl⟩⟩, hb'⟩
    · have hth : ¬ Mc.there ⟨(k : Int), [z0, z1, z2, z3, z4, z5, z6, z7], mm, op⟩ ⟨((17 : Nat) : Int), (a : Int), (b : Int), (c : Int), m⟩ = true := by unfold Mc.there; rw [had]; simp only [decide_eq_true_eq]; show ¬ (t : Int) + (c : Int) ≤ (mm.length : Int); omega
      have e : Mc.act P xs ⟨((17 : Nat) : Int), (a : Int), (b : Int), (c : Int), m⟩ ⟨(k : Int), [z0, z1, z2, z3, z4, z5, z6, z7], mm, op⟩ ((k : Int) + 1) = (⟨(k : Int), [z0, z1, z2, z3, z4, z5, z6, z7], mm, op⟩, (k : Int) + 1, 2) := by
        have e0 : Mc.act P xs ⟨((17 : Nat) : Int), (a : Int), (b : Int), (c : Int), m⟩ ⟨(k : Int), [z0, z1, z2, z3, z4, z5, z6, z7], mm, op⟩ ((k : Int) + 1) = (if Mc.there ⟨(k : Int), [z0, z1, z2, z3, z4, z5, z6, z7], mm, op⟩ ⟨((17 : Nat) : Int), (a : Int), (b : Int), (c : Int), m⟩ = true then (Mc.wr ⟨(k : Int), [z0, z1, z2, z3, z4, z5, z6, z7], mm, op⟩ ⟨((17 : Nat) : Int), (a : Int), (b : Int), (c : Int), m⟩ (Mc.lod ⟨(k : Int), [z0, z1, z2, z3, z4, z5, z6, z7], mm, op⟩ ⟨((17 : Nat) : Int), (a : Int), (b : Int), (c : Int), m⟩), (k : Int) + 1, 0) else (⟨(k : Int), [z0, z1, z2, z3, z4, z5, z6, z7], mm, op⟩, (k : Int) + 1, 2)) := rfl
        rw [e0, if_neg hth]
      rw [Mc.step_end hii e (by decide)]
      exact rstep_sub17 mem stk inp Ad ld cd Af lf cf bc oc lc cc Ai li ci k (a : Int) (b : Int) (c : Int) m mm op _ _ z0 z1 z2 z3 z4 z5 z6 z7 MA mn mc OA on occ w hkl' hbc hins (fun W hW => SubR.still rfl hml hol (rmem_out 17 (a : Int) (c : Int) m b (k : Int) z0 z1 z2 z3 z4 z5 z6 z7 MA mn mc OA on occ _ (t : Int) W hb (hreg b hb) hat hmn (by omega) (by omega) (by omega) (by omega)))
  | 18, _ =>
    have hc0 := hc17 (.inr rfl)
    obtain ⟨t, had⟩ : ∃ t : Nat, Mc.ad ⟨(k : Int), [z0, z1, z2, z3, z4, z5, z6, z7], mm, op⟩ ⟨((18 : Nat) : Int), (a : Int), (b : Int), (c : Int), m⟩ = t := Int.eq_ofNat_of_zero_le (Int.emod_nonneg _ (by decide))
    have hat : (([z0, z1, z2, z3, z4, z5, z6, z7] : List Int).getD b 0 + m) % 18446744073709551616 = (t : Int) := by rw [← hrv b]; exact had
    by_cases ht : t + c ≤ mm.length
    · have hth : Mc.there ⟨(k : Int), [z0, z1, z2, z3, z4, z5, z6, z7], mm, op⟩ ⟨((18 : Nat) : Int), (a : Int), (b : Int), (c : Int), m⟩ = true := by unfold Mc.there; rw [had]; simp only [decide_eq_true_eq]; show (t : Int) + (c : Int) ≤ (mm.length : Int); omega
      have e : Mc.act P xs ⟨((18 : Nat) : Int), (a : Int), (b : Int), (c : Int), m⟩ ⟨(k : Int), [z0, z1, z2, z3, z4, z5, z6, z7], mm, op⟩ ((k : Int) + 1) = ({ (⟨(k : Int), [z0, z1, z2, z3, z4, z5, z6, z7], mm, op⟩ : Mc.St) with mm := Mc.sav mm t c (([z0, z1, z2, z3, z4, z5, z6, z7] : List Int).getD a 0) }, (k : Int) + 1, 0) := by
        have e0 : Mc.act P xs ⟨((18 : Nat) : Int), (a : Int), (b : Int), (c : Int), m⟩ ⟨(k : Int), [z0, z1, z2, z3, z4, z5, z6, z7], mm, op⟩ ((k : Int) + 1) = (if Mc.there ⟨(k : Int), [z0, z1, z2, z3, z4, z5, z6, z7], mm, op⟩ ⟨((18 : Nat) : Int), (a : Int), (b : Int), (c : Int), m⟩ = true then ({ (⟨(k : Int), [z0, z1, z2, z3, z4, z5, z6, z7], mm, op⟩ : Mc.St) with mm := Mc.sav mm (Mc.ad ⟨(k : Int), [z0, z1, z2, z3, z4, z5, z6, z7], mm, op⟩ ⟨((18 : Nat) : Int), (a : Int), (b : Int), (c : Int), m⟩).toNat c (Mc.rv ⟨(k : Int), [z0, z1, z2, z3, z4, z5, z6, z7], mm, op⟩ (a : Int)) }, (k : Int) + 1, 0) else (⟨(k : Int), [z0, z1, z2, z3, z4, z5, z6, z7], mm, op⟩, (k : Int) + 1, 2)) := rfl
        rw [e0, if_pos hth, had, hrv a]; rfl
      rw [Mc.step_of hii e]
      have hsl : (Mc.sav mm t c (([z0, z1, z2, z3, z4, z5, z6, z7] : List Int).getD a 0)).length = mn := by rw [Mc.sav_len ht, hml]
      refine rstep_sub18 mem stk inp Ad ld cd Af lf cf bc oc lc cc Ai li ci k (a : Int) (b : Int) (c : Int) m mm op _ _ z0 z1 z2 z3 z4 z5 z6 z7 MA mn mc OA on occ w hkl' hbc hins (fun W hW => (rmem_save m a b t c (k : Int) z0 z1 z2 z3 z4 z5 z6 z7 MA mn mc OA on occ mm _ _ W ha hb (hreg b hb) (hreg a ha) hat hmn hc0 hc8 (by omega) (hm.below hW) hk0 hk1 (hrr a)).mono ?_)
      rintro e w' ⟨MA', mc', rfl, how, hb'⟩
      refine ⟨_, rfl, ⟨MA', mc', OA, occ, by rw [← hol]; simp only [hsl]; rfl, .inr ?_, .inl ⟨rfl, rfl, rfl⟩⟩, hb'⟩
      simp only [hsl]
      exact how
    · have hth : ¬ Mc.there ⟨(k : Int), [z0, z1, z2, z3, z4, z5, z6, z7], mm, op⟩ ⟨((18 : Nat) : Int), (a : Int), (b : Int), (c : Int), m⟩ = true := by unfold Mc.there; rw [had]; simp only [decide_eq_true_eq]; show ¬ (t : Int) + (c : Int) ≤ (mm.length : Int); omega
      have e : Mc.act P xs ⟨((18 : Nat) : Int), (a : Int), (b : Int), (c : Int), m⟩ ⟨(k : Int), [z0, z1, z2, z3, z4, z5, z6, z7], mm, op⟩ ((k : Int) + 1) = (⟨(k : Int), [z0, z1, z2, z3, z4, z5, z6, z7], mm, op⟩, (k : Int) + 1, 2) := by
        have e0 : Mc.act P xs ⟨((18 : Nat) : Int), (a : Int), (b : Int), (c : Int), m⟩ ⟨(k : Int), [z0, z1, z2, z3, z4, z5, z6, z7], mm, op⟩ ((k : Int) + 1) = (if Mc.there ⟨(k : Int), [z0, z1, z2, z3, z4, z5, z6, z7], mm, op⟩ ⟨((18 : Nat) : Int), (a : Int), (b : Int), (c : Int), m⟩ = true then ({ (⟨(k : Int), [z0, z1, z2, z3, z4, z5, z6, z7], mm, op⟩ : Mc.St) with mm := Mc.sav mm (Mc.ad ⟨(k : Int), [z0, z1, z2, z3, z4, z5, z6, z7], mm, op⟩ ⟨((18 : Nat) : Int), (a : Int), (b : Int), (c : Int), m⟩).toNat c (Mc.rv ⟨(k : Int), [z0, z1, z2, z3, z4, z5, z6, z7], mm, op⟩ (a : Int)) }, (k : Int) + 1, 0) else (⟨(k : Int), [z0, z1, z2, z3, z4, z5, z6, z7], mm, op⟩, (k : Int) + 1, 2)) := rfl
        rw [e0, if_neg hth]
      rw [Mc.step_end hii e (by decide)]
      exact rstep_sub18 mem stk inp Ad ld cd Af lf cf bc oc lc cc Ai li ci k (a : Int) (b : Int) (c : Int) m mm op _ _ z0 z1 z2 z3 z4 z5 z6 z7 MA mn mc OA on occ w hkl' hbc hins (fun W hW => SubR.still rfl hml hol (rmem_out 18 (a : Int) (c : Int) m b (k : Int) z0 z1 z2 z3 z4 z5 z6 z7 MA mn mc OA on occ _ (t : Int) W hb (hreg b hb) hat hmn (by omega) (by omega) (by omega) (by omega)))
  | 19, _ =>
    obtain ⟨t, had⟩ : ∃ t : Nat, Mc.ad ⟨(k : Int), [z0, z1, z2, z3, z4, z5, z6, z7], mm, op⟩ ⟨((19 : Nat) : Int), (a : Int), (b : Int), (c : Int), m⟩ = t := Int.eq_ofNat_of_zero_le (Int.emod_nonneg _ (by decide))
    have hat : (([z0, z1, z2, z3, z4, z5, z6, z7] : List Int).getD b 0 + m) % 18446744073709551616 = (t : Int) := by rw [← hrv b]; exact had
    by_cases ht : t < xs.length
    · have e : Mc.act P xs ⟨((19 : Nat) : Int), (a : Int), (b : Int), (c : Int), m⟩ ⟨(k : Int), [z0, z1, z2, z3, z4, z5, z6, z7], mm, op⟩ ((k : Int) + 1) = (Mc.wr ⟨(k : Int), [z0, z1, z2, z3, z4, z5, z6, z7], mm, op⟩ ⟨((19 : Nat) : Int), (a : Int), (b : Int), (c : Int), m⟩ (xs.getD t 0), (k : Int) + 1, 0) := by
        have e0 : Mc.act P xs ⟨((19 : Nat) : Int), (a : Int), (b : Int), (c : Int), m⟩ ⟨(k : Int), [z0, z1, z2, z3, z4, z5, z6, z7], mm, op⟩ ((k : Int) + 1) = (if Mc.ad ⟨(k : Int), [z0, z1, z2, z3, z4, z5, z6, z7], mm, op⟩ ⟨((19 : Nat) : Int), (a : Int), (b : Int), (c : Int), m⟩ < (xs.length : Int) then (Mc.wr ⟨(k : Int), [z0, z1, z2, z3, z4, z5, z6, z7], mm, op⟩ ⟨((19 : Nat) : Int), (a : Int), (b : Int), (c : Int), m⟩ (xs.getD (Mc.ad ⟨(k : Int), [z0, z1, z2, z3, z4, z5, z6, z7], mm, op⟩ ⟨((19 : Nat) : Int), (a : Int), (b : Int), (c : Int), m⟩).toNat 0), (k : Int) + 1, 0) else (⟨(k : Int), [z0, z1, z2, z3, z4, z5, z6, z7], mm, op⟩, (k : Int) + 1, 5)) := rfl
        rw [e0, had, if_pos (by omega)]; rfl
      rw [Mc.step_of hii e]
      exact rstep_input mem stk inp Ad ld cd Af lf cf bc oc lc cc Ai li ci k a ha mm op b t hb (c : Int) m _ z0 z1 z2 z3 z4 z5 z6 z7 MA mn mc OA on occ w hkl' hbc hins hml hol hkM (by omega) xs hinp hlM (hreg b hb) hat
    · have e : Mc.act P xs ⟨((19 : Nat) : Int), (a : Int), (b : Int), (c : Int), m⟩ ⟨(k : Int), [z0, z1, z2, z3, z4, z5, z6, z7], mm, op⟩ ((k : Int) + 1) = (⟨(k : Int), [z0, z1, z2, z3, z4, z5, z6, z7], mm, op⟩, (k : Int) + 1, 5) := by
        have e0 : Mc.act P xs ⟨((19 : Nat) : Int), (a : Int), (b : Int), (c : Int), m⟩ ⟨(k : Int), [z0, z1, z2, z3, z4, z5, z6, z7], mm, op⟩ ((k : Int) + 1) = (if Mc.ad ⟨(k : Int), [z0, z1, z2, z3, z4, z5, z6, z7], mm, op⟩ ⟨((19 : Nat) : Int), (a : Int), (b : Int), (c : Int), m⟩ < (xs.length : Int) then (Mc.wr ⟨(k : Int), [z0, z1, z2, z3, z4, z5, z6, z7], mm, op⟩ ⟨((19 : Nat) : Int), (a : Int), (b : Int), (c : Int), m⟩ (xs.getD (Mc.ad ⟨(k : Int), [z0, z1, z2, z3, z4, z5, z6, z7], mm, op⟩ ⟨((19 : Nat) : Int), (a : Int), (b : Int), (c : Int), m⟩).toNat 0), (k : Int) + 1, 0) else (⟨(k : Int), [z0, z1, z2, z3, z4, z5, z6, z7], mm, op⟩, (k : Int) + 1, 5)) := rfl
        rw [e0, had, if_neg (by omega)]
      rw [Mc.step_end hii e (by decide)]
      exact SubR.still rfl hml hol (rstep_far mem stk inp Ad ld cd Af lf cf bc oc lc cc Ai li ci k a mm op b t hb (c : Int) m _ z0 z1 z2 z3 z4 z5 z6 z7 MA mn mc OA on occ w hkl' hbc hins hml hol (by omega) hlM (hreg b hb) hat)
  | 20, _ =>
    have e : Mc.act P xs ⟨((20 : Nat) : Int), (a : Int), (b : Int), (c : Int), m⟩ ⟨(k : Int), [z0, z1, z2, z3, z4, z5, z6, z7], mm, op⟩ ((k : Int) + 1) = (Mc.wr ⟨(k : Int), [z0, z1, z2, z3, z4, z5, z6, z7], mm, op⟩ ⟨((20 : Nat) : Int), (a : Int), (b : Int), (c : Int), m⟩ (li : Int), (k : Int) + 1, 0) := by rw [← hxl]; simp [Mc.act]
    rw [Mc.step_of hii e]
    exact rstep_len mem stk inp Ad ld cd Af lf cf bc oc lc cc Ai li ci k a ha mm op (b : Int) (c : Int) m z0 z1 z2 z3 z4 z5 z6 z7 MA mn mc OA on occ w hkl' hbc hins hml hol hkM hlM
  | 21, _ =>
    have hmc := hld.1 (.inl rfl)
    have e : Mc.act P xs ⟨((21 : Nat) : Int), (a : Int), (b : Int), (c : Int), m⟩ ⟨(k : Int), [z0, z1, z2, z3, z4, z5, z6, z7], mm, op⟩ ((k : Int) + 1) = (⟨(k : Int), [z0, z1, z2, z3, z4, z5, z6, z7], mm, op⟩, m, 0) := by simp [Mc.act]
    rw [Mc.step_of hii e]
    exact rstep_sub21 mem stk inp Ad ld cd Af lf cf bc oc lc cc Ai li ci k (a : Int) (b : Int) (c : Int) m mm op _ _ z0 z1 z2 z3 z4 z5 z6 z7 MA mn mc OA on occ w hkl' hbc hins (fun W hW => SubR.goes rfl hml hol (rflow_jump mem stk inp Ad ld cd Af lf cf (some ⟨bc, oc, none⟩) lc cc (k : Int) z0 z1 z2 z3 z4 z5 z6 z7 MA mn mc OA on occ (a : Int) (b : Int) (c : Int) m W hmr.1 (by omega)))
  | 22, _ =>
    have hmc := hld.1 (.inr rfl)
    have e : Mc.act P xs ⟨((22 : Nat) : Int), (a : Int), (b : Int), (c : Int), m⟩ ⟨(k : Int), [z0, z1, z2, z3, z4, z5, z6, z7], mm, op⟩ ((k : Int) + 1) = (⟨(k : Int), [z0, z1, z2, z3, z4, z5, z6, z7], mm, op⟩, if ([z0, z1, z2, z3, z4, z5, z6, z7] : List Int).getD a 0 = 0 then (k : Int) + 1 else m, 0) := by 
      have e0 : Mc.act P xs ⟨((22 : Nat) : Int), (a : Int), (b : Int), (c : Int), m⟩ ⟨(k : Int), [z0, z1, z2, z3, z4, z5, z6, z7], mm, op⟩ ((k : Int) + 1) = (if Mc.rv ⟨(k : Int), [z0, z1, z2, z3, z4, z5, z6, z7], mm, op⟩ (a : Int) = 0 then (⟨(k : Int), [z0, z1, z2, z3, z4, z5, z6, z7], mm, op⟩, (k : Int) + 1, 0) else (⟨(k : Int), [z0, z1, z2, z3, z4, z5, z6, z7], mm, op⟩, m, 0)) := rfl
      rw [e0, hrv a]
      split <;> rfl
    rw [Mc.step_of hii e]
    exact rstep_sub22 mem stk inp Ad ld cd Af lf cf bc oc lc cc Ai li ci k (a : Int) (b : Int) (c : Int) m mm op _ _ z0 z1 z2 z3 z4 z5 z6 z7 MA mn mc OA on occ w hkl' hbc hins (fun W hW => SubR.goes rfl hml hol (rflow_branch mem stk inp Ad ld cd Af lf cf (some ⟨bc, oc, none⟩) lc cc a (b : Int) (c : Int) m (k : Int) z0 z1 z2 z3 z4 z5 z6 z7 MA mn mc OA on occ W ha hmr.1 (by omega) hk0 hk1))
  | 23, _ =>
    have hmf := hld.2 rfl
    have hfl := himg.f.hlen
    obtain ⟨q, rfl⟩ := Int.eq_ofNat_of_zero_le hmr.1
    by_cases hst : (op.length : Int) < stk
    · have e : Mc.act P xs ⟨((23 : Nat) : Int), (a : Int), (b : Int), (c : Int), (q : Int)⟩ ⟨(k : Int), [z0, z1, z2, z3, z4, z5, z6, z7], mm, op⟩ ((k : Int) + 1) = ({ (⟨(k : Int), [z0, z1, z2, z3, z4, z5, z6, z7], mm, op⟩ : Mc.St) with op := op ++ [(k : Int) + 1] }, P.fs.getD q 0, 0) := by rw [← he1] at hst; simp [Mc.act, hst]
      rw [Mc.step_of hii e]
      refine rstep_sub23 mem stk inp Ad ld cd Af lf cf bc oc lc cc Ai li ci k (a : Int) (b : Int) (c : Int) (q : Int) mm op _ _ z0 z1 z2 z3 z4 z5 z6 z7 MA mn mc OA on occ w hkl' hbc hins (fun W hW => (rflow_call mem stk inp Ad ld cd Af lf cf (some ⟨bc, oc, none⟩) lc cc (a : Int) (b : Int) (c : Int) q (k : Int) z0 z1 z2 z3 z4 z5 z6 z7 MA mn mc OA on occ op P.fs W (hp.below hW) (himg.f.below hW) (by omega) (by omega) hon hk0 hk1).mono ?_)
      rintro e w' ⟨O', oc', rfl, how, hb'⟩
      have hol2 : (op ++ [(k : Int) + 1]).length = on + 1 := by simp [hol]
      refine ⟨_, rfl, ⟨MA, mc, O', oc', by rw [← hml]; simp only [hol2]; rfl, .inl ⟨rfl, rfl, rfl⟩, .inr ?_⟩, hb'⟩
      simp only [hol2]
      exact how
    · have e : Mc.act P xs ⟨((23 : Nat) : Int), (a : Int), (b : Int), (c : Int), (q : Int)⟩ ⟨(k : Int), [z0, z1, z2, z3, z4, z5, z6, z7], mm, op⟩ ((k : Int) + 1) = (⟨(k : Int), [z0, z1, z2, z3, z4, z5, z6, z7], mm, op⟩, (k : Int) + 1, 4) := by rw [← he1] at hst; simp [Mc.act, hst]
      rw [Mc.step_end hii e (by decide)]
      exact rstep_sub23 mem stk inp Ad ld cd Af lf cf bc oc lc cc Ai li ci k (a : Int) (b : Int) (c : Int) (q : Int) mm op _ _ z0 z1 z2 z3 z4 z5 z6 z7 MA mn mc OA on occ w hkl' hbc hins (fun W hW => SubR.still rfl hml hol (rflow_full mem stk inp Ad ld cd Af lf cf (some ⟨bc, oc, none⟩) lc cc (k : Int) z0 z1 z2 z3 z4 z5 z6 z7 MA mn mc OA on occ (a : Int) (b : Int) (c : Int) (q : Int) W (by omega)))
  | 24, _ =>
    by_cases hop : op = []
    · have e : Mc.act P xs ⟨((24 : Nat) : Int), (a : Int), (b : Int), (c : Int), m⟩ ⟨(k : Int), [z0, z1, z2, z3, z4, z5, z6, z7], mm, op⟩ ((k : Int) + 1) = (⟨(k : Int), [z0, z1, z2, z3, z4, z5, z6, z7], mm, op⟩, (k : Int) + 1, 1) := by simp [Mc.act, hop]
      rw [Mc.step_end hii e (by decide)]
      exact rstep_sub24 mem stk inp Ad ld cd Af lf cf bc oc lc cc Ai li ci k (a : Int) (b : Int) (c : Int) m mm op _ _ z0 z1 z2 z3 z4 z5 z6 z7 MA mn mc OA on occ w hkl' hbc hins (fun W hW => SubR.still rfl hml hol (rflow_empty mem stk inp Ad ld cd Af lf cf (some ⟨bc, oc, none⟩) lc cc (k : Int) z0 z1 z2 z3 z4 z5 z6 z7 MA mn mc OA on occ (a : Int) (b : Int) (c : Int) m W (by rw [← hol, hop]; rfl)))
    · obtain ⟨j, hj⟩ : ∃ j, on = j + 1 := ⟨on - 1, by have : op.length ≠ 0 := fun h => hop (List.eq_nil_of_length_eq_zero h); omega⟩
      have e : Mc.act P xs ⟨((24 : Nat) : Int), (a : Int), (b : Int), (c : Int), m⟩ ⟨(k : Int), [z0, z1, z2, z3, z4, z5, z6, z7], mm, op⟩ ((k : Int) + 1) = ({ (⟨(k : Int), [z0, z1, z2, z3, z4, z5, z6, z7], mm, op⟩ : Mc.St) with op := op.dropLast }, op.getD j 0, 0) := by rw [← Mc.last_get op j (by omega)]; simp [Mc.act, hop]
      rw [Mc.step_of hii e]
      obtain ⟨ob, oo, rfl, _, _⟩ := hp.mem (by omega)
      refine rstep_sub24 mem stk inp Ad ld cd Af lf cf bc oc lc cc Ai li ci k (a : Int) (b : Int) (c : Int) m mm op _ _ z0 z1 z2 z3 z4 z5 z6 z7 MA mn mc _ on occ w hkl' hbc hins (fun W hW => (rflow_back mem stk inp Ad ld cd Af lf cf (some ⟨bc, oc, none⟩) lc cc (a : Int) (b : Int) (c : Int) m (k : Int) z0 z1 z2 z3 z4 z5 z6 z7 MA mn mc ob oo on occ j op W (hp.below hW) hj hon).mono ?_)
      rintro e w' ⟨O', oc', rfl, how, hb'⟩
      have hol2 : op.dropLast.length = j := by rw [List.length_dropLast]; omega
      refine ⟨_, rfl, ⟨MA, mc, O', oc', by rw [← hml]; simp only [hol2]; rfl, .inl ⟨rfl, rfl, rfl⟩, .inr ?_⟩, hb'⟩
      simp only [hol2]
      exact how
  | 6, _ =>
    have hcc8 := key 6 rfl (by decide)
    by_cases hy : ([z0, z1, z2, z3, z4, z5, z6, z7] : List Int).getD c 0 = 0
    · have e : Mc.act P xs ⟨((6 : Nat) : Int), (a : Int), (b : Int), (c : Int), m⟩ ⟨(k : Int), [z0, z1, z2, z3, z4, z5, z6, z7], mm, op⟩ ((k : Int) + 1) = (⟨(k : Int), [z0, z1, z2, z3, z4, z5, z6, z7], mm, op⟩, (k : Int) + 1, 3) := by rw [← hrv c] at hy; simp [Mc.act, hy]
      rw [Mc.step_end hii e (by decide)]
      have hrc := hreg c hcc8
      rw [hy] at hrc
      exact SubR.still rfl hml hol (rstep_zero6 mem stk inp Ad ld cd Af lf cf bc oc lc cc Ai li ci k (a : Int) (b : Int) c hcc8 m z0 z1 z2 z3 z4 z5 z6 z7 MA mn mc OA on occ w hkl' hbc hins hrc)
    · have hx' := hrr b
      have hy' := hrr c
      have hrb := hreg b hb
      have hrc := hreg c hcc8
      have e : Mc.act P xs ⟨((6 : Nat) : Int), (a : Int), (b : Int), (c : Int), m⟩ ⟨(k : Int), [z0, z1, z2, z3, z4, z5, z6, z7], mm, op⟩ ((k : Int) + 1) = (Mc.wr ⟨(k : Int), [z0, z1, z2, z3, z4, z5, z6, z7], mm, op⟩ ⟨((6 : Nat) : Int), (a : Int), (b : Int), (c : Int), m⟩ (Wd.app (((6 : Nat) : Int) + 5) 64 (([z0, z1, z2, z3, z4, z5, z6, z7] : List Int).getD b 0) (([z0, z1, z2, z3, z4, z5, z6, z7] : List Int).getD c 0)), (k : Int) + 1, 0) := by
        rw [← hrv c] at hy
        rw [← hrv b, ← hrv c]
        simp [Mc.act, hy]
      rw [Mc.step_of hii e]
      obtain ⟨x, hx⟩ := Int.eq_ofNat_of_zero_le hx'.1
      obtain ⟨y, hyy⟩ := Int.eq_ofNat_of_zero_le hy'.1
      rw [hx] at hrb hx' ⊢
      rw [hyy] at hrc hy' hy ⊢
      exact rstep_app6 mem stk inp Ad ld cd Af lf cf bc oc lc cc Ai li ci k ((6 : Nat) : Int) a ha mm op b c hb hcc8 m x y z0 z1 z2 z3 z4 z5 z6 z7 MA mn mc OA on occ w hkl' hbc hins hml hol hkM hrb hrc (by omega) (by omega) rfl rfl rfl rfl rfl rfl rfl rfl rfl rfl rfl rfl (by decide) (by decide) rfl (by simpa using hy)
  | 7, _ =>
    have hcc8 := key 7 rfl (by decide)
    by_cases hy : ([z0, z1, z2, z3, z4, z5, z6, z7] : List Int).getD c 0 = 0
    · have e : Mc.act P xs ⟨((7 : Nat) : Int), (a : Int), (b : Int), (c : Int), m⟩ ⟨(k : Int), [z0, z1, z2, z3, z4, z5, z6, z7], mm, op⟩ ((k : Int) + 1) = (⟨(k : Int), [z0, z1, z2, z3, z4, z5, z6, z7], mm, op⟩, (k : Int) + 1, 3) := by rw [← hrv c] at hy; simp [Mc.act, hy]
      rw [Mc.step_end hii e (by decide)]
      have hrc := hreg c hcc8
      rw [hy] at hrc
      exact SubR.still rfl hml hol (rstep_zero7 mem stk inp Ad ld cd Af lf cf bc oc lc cc Ai li ci k (a : Int) (b : Int) c hcc8 m z0 z1 z2 z3 z4 z5 z6 z7 MA mn mc OA on occ w hkl' hbc hins hrc)
    · have hx' := hrr b
      have hy' := hrr c
      have hrb := hreg b hb
      have hrc := hreg c hcc8
      have e : Mc.act P xs ⟨((7 : Nat) : Int), (a : Int), (b : Int), (c : Int), m⟩ ⟨(k : Int), [z0, z1, z2, z3, z4, z5, z6, z7], mm, op⟩ ((k : Int) + 1) = (Mc.wr ⟨(k : Int), [z0, z1, z2, z3, z4, z5, z6, z7], mm, op⟩ ⟨((7 : Nat) : Int), (a : Int), (b : Int), (c : Int), m⟩ (Wd.app (((7 : Nat) : Int) + 5) 64 (([z0, z1, z2, z3, z4, z5, z6, z7] : List Int).getD b 0) (([z0, z1, z2, z3, z4, z5, z6, z7] : List Int).getD c 0)), (k : Int) + 1, 0) := by
        rw [← hrv c] at hy
        rw [← hrv b, ← hrv c]
        simp [Mc.act, hy]
      rw [Mc.step_of hii e]
      obtain ⟨x, hx⟩ := Int.eq_ofNat_of_zero_le hx'.1
      obtain ⟨y, hyy⟩ := Int.eq_ofNat_of_zero_le hy'.1
      rw [hx] at hrb hx' ⊢
      rw [hyy] at hrc hy' hy ⊢
      exact rstep_app7 mem stk inp Ad ld cd Af lf cf bc oc lc cc Ai li ci k ((7 : Nat) : Int) a ha mm op b c hb hcc8 m x y z0 z1 z2 z3 z4 z5 z6 z7 MA mn mc OA on occ w hkl' hbc hins hml hol hkM hrb hrc (by omega) (by omega) rfl rfl rfl rfl rfl rfl rfl rfl rfl rfl rfl rfl (by decide) (by decide) rfl rfl (by simpa using hy)
  | 3, _ =>
    have hcc8 := key 3 rfl (by decide)
    have hx' := hrr b
    have hy' := hrr c
    have hrb := hreg b hb
    have hrc := hreg c hcc8
    have e : Mc.act P xs ⟨((3 : Nat) : Int), (a : Int), (b : Int), (c : Int), m⟩ ⟨(k : Int), [z0, z1, z2, z3, z4, z5, z6, z7], mm, op⟩ ((k : Int) + 1) = (Mc.wr ⟨(k : Int), [z0, z1, z2, z3, z4, z5, z6, z7], mm, op⟩ ⟨((3 : Nat) : Int), (a : Int), (b : Int), (c : Int), m⟩ (Wd.app (((3 : Nat) : Int) + 5) 64 (([z0, z1, z2, z3, z4, z5, z6, z7] : List Int).getD b 0) (([z0, z1, z2, z3, z4, z5, z6, z7] : List Int).getD c 0)), (k : Int) + 1, 0) := by
      rw [← hrv b, ← hrv c]
      simp [Mc.act]
    rw [Mc.step_of hii e]
    obtain ⟨x, hx⟩ := Int.eq_ofNat_of_zero_le hx'.1
    obtain ⟨y, hyy⟩ := Int.eq_ofNat_of_zero_le hy'.1
    rw [hx] at hrb hx' ⊢
    rw [hyy] at hrc hy' ⊢
    exact rstep_appn mem stk inp Ad ld cd Af lf cf bc oc lc cc Ai li ci k ((3 : Nat) : Int) a ha mm op b c hb hcc8 m x y z0 z1 z2 z3 z4 z5 z6 z7 MA mn mc OA on occ w hkl' hbc hins hml hol hkM hrb hrc (by omega) (by omega) rfl rfl rfl rfl rfl rfl rfl rfl rfl rfl rfl rfl (by decide) (by decide) rfl rfl
  | 4, _ =>
    have hcc8 := key 4 rfl (by decide)
    have hx' := hrr b
    have hy' := hrr c
    have hrb := hreg b hb
    have hrc := hreg c hcc8
    have e : Mc.act P xs ⟨((4 : Nat) : Int), (a : Int), (b : Int), (c : Int), m⟩ ⟨(k : Int), [z0, z1, z2, z3, z4, z5, z6, z7], mm, op⟩ ((k : Int) + 1) = (Mc.wr ⟨(k : Int), [z0, z1, z2, z3, z4, z5, z6, z7], mm, op⟩ ⟨((4 : Nat) : Int), (a : Int), (b : Int), (c : Int), m⟩ (Wd.app (((4 : Nat) : Int) + 5) 64 (([z0, z1, z2, z3, z4, z5, z6, z7] : List Int).getD b 0) (([z0, z1, z2, z3, z4, z5, z6, z7] : List Int).getD c 0)), (k : Int) + 1, 0) := by
      rw [← hrv b, ← hrv c]
      simp [Mc.act]
    rw [Mc.step_of hii e]
    obtain ⟨x, hx⟩ := Int.eq_ofNat_of_zero_le hx'.1
    obtain ⟨y, hyy⟩ := Int.eq_ofNat_of_zero_le hy'.1
    rw [hx] at hrb hx' ⊢
    rw [hyy] at hrc hy' ⊢
    exact rstep_appn mem stk inp Ad ld cd Af lf cf bc oc lc cc Ai li ci k ((4 : Nat) : Int) a ha mm op b c hb hcc8 m x y z0 z1 z2 z3 z4 z5 z6 z7 MA mn mc OA on occ w hkl' hbc hins hml hol hkM hrb hrc (by omega) (by omega) rfl rfl rfl rfl rfl rfl rfl rfl rfl rfl rfl rfl (by decide) (by decide) rfl rfl
  | 5, _ =>
    have hcc8 := key 5 rfl (by decide)
    have hx' := hrr b
    have hy' := hrr c
    have hrb := hreg b hb
    have hrc := hreg c hcc8
    have e : Mc.act P xs ⟨((5 : Nat) : Int), (a : Int), (b : Int), (c : Int), m⟩ ⟨(k : Int), [z0, z1, z2, z3, z4, z5, z6, z7], mm, op⟩ ((k : Int) + 1) = (Mc.wr ⟨(k : Int), [z0, z1, z2, z3, z4, z5, z6, z7], mm, op⟩ ⟨((5 : Nat) : Int), (a : Int), (b : Int), (c : Int), m⟩ (Wd.app (((5 : Nat) : Int) + 5) 64 (([z0, z1, z2, z3, z4, z5, z6, z7] : List Int).getD b 0) (([z0, z1, z2, z3, z4, z5, z6, z7] : List Int).getD c 0)), (k : Int) + 1, 0) := by
      rw [← hrv b, ← hrv c]
      simp [Mc.act]
    rw [Mc.step_of hii e]
    obtain ⟨x, hx⟩ := Int.eq_ofNat_of_zero_le hx'.1
    obtain ⟨y, hyy⟩ := Int.eq_ofNat_of_zero_le hy'.1
    rw [hx] at hrb hx' ⊢
    rw [hyy] at hrc hy' ⊢
    exact rstep_appn mem stk inp Ad ld cd Af lf cf bc oc lc cc Ai li ci k ((5 : Nat) : Int) a ha mm op b c hb hcc8 m x y z0 z1 z2 z3 z4 z5 z6 z7 MA mn mc OA on occ w hkl' hbc hins hml hol hkM hrb hrc (by omega) (by omega) rfl rfl rfl rfl rfl rfl rfl rfl rfl rfl rfl rfl (by decide) (by decide) rfl rfl
  | 8, _ =>
    have hcc8 := key 8 rfl (by decide)
    have hx' := hrr b
    have hy' := hrr c
    have hrb := hreg b hb
    have hrc := hreg c hcc8
    have e : Mc.act P xs ⟨((8 : Nat) : Int), (a : Int), (b : Int), (c : Int), m⟩ ⟨(k : Int), [z0, z1, z2, z3, z4, z5, z6, z7], mm, op⟩ ((k : Int) + 1) = (Mc.wr ⟨(k : Int), [z0, z1, z2, z3, z4, z5, z6, z7], mm, op⟩ ⟨((8 : Nat) : Int), (a : Int), (b : Int), (c : Int), m⟩ (Wd.app (((8 : Nat) : Int) + 5) 64 (([z0, z1, z2, z3, z4, z5, z6, z7] : List Int).getD b 0) (([z0, z1, z2, z3, z4, z5, z6, z7] : List Int).getD c 0)), (k : Int) + 1, 0) := by
      rw [← hrv b, ← hrv c]
      simp [Mc.act]
    rw [Mc.step_of hii e]
    obtain ⟨x, hx⟩ := Int.eq_ofNat_of_zero_le hx'.1
    obtain ⟨y, hyy⟩ := Int.eq_ofNat_of_zero_le hy'.1
    rw [hx] at hrb hx' ⊢
    rw [hyy] at hrc hy' ⊢
    exact rstep_appn mem stk inp Ad ld cd Af lf cf bc oc lc cc Ai li ci k ((8 : Nat) : Int) a ha mm op b c hb hcc8 m x y z0 z1 z2 z3 z4 z5 z6 z7 MA mn mc OA on occ w hkl' hbc hins hml hol hkM hrb hrc (by omega) (by omega) rfl rfl rfl rfl rfl rfl rfl rfl rfl rfl rfl rfl (by decide) (by decide) rfl rfl
  | 9, _ =>
    have hcc8 := key 9 rfl (by decide)
    have hx' := hrr b
    have hy' := hrr c
    have hrb := hreg b hb
    have hrc := hreg c hcc8
    have e : Mc.act P xs ⟨((9 : Nat) : Int), (a : Int), (b : Int), (c : Int), m⟩ ⟨(k : Int), [z0, z1, z2, z3, z4, z5, z6, z7], mm, op⟩ ((k : Int) + 1) = (Mc.wr ⟨(k : Int), [z0, z1, z2, z3, z4, z5, z6, z7], mm, op⟩ ⟨((9 : Nat) : Int), (a : Int), (b : Int), (c : Int), m⟩ (Wd.app (((9 : Nat) : Int) + 5) 64 (([z0, z1, z2, z3, z4, z5, z6, z7] : List Int).getD b 0) (([z0, z1, z2, z3, z4, z5, z6, z7] : List Int).getD c 0)), (k : Int) + 1, 0) := by
      rw [← hrv b, ← hrv c]
      simp [Mc.act]
    rw [Mc.step_of hii e]
    obtain ⟨x, hx⟩ := Int.eq_ofNat_of_zero_le hx'.1
    obtain ⟨y, hyy⟩ := Int.eq_ofNat_of_zero_le hy'.1
    rw [hx] at hrb hx' ⊢
    rw [hyy] at hrc hy' ⊢
    exact rstep_appn mem stk inp Ad ld cd Af lf cf bc oc lc cc Ai li ci k ((9 : Nat) : Int) a ha mm op b c hb hcc8 m x y z0 z1 z2 z3 z4 z5 z6 z7 MA mn mc OA on occ w hkl' hbc hins hml hol hkM hrb hrc (by omega) (by omega) rfl rfl rfl rfl rfl rfl rfl rfl rfl rfl rfl rfl (by decide) (by decide) rfl rfl
  | 10, _ =>
    have hcc8 := key 10 rfl (by decide)
    have hx' := hrr b
    have hy' := hrr c
    have hrb := hreg b hb
    have hrc := hreg c hcc8
    have e : Mc.act P xs ⟨((10 : Nat) : Int), (a : Int), (b : Int), (c : Int), m⟩ ⟨(k : Int), [z0, z1, z2, z3, z4, z5, z6, z7], mm, op⟩ ((k : Int) + 1) = (Mc.wr ⟨(k : Int), [z0, z1, z2, z3, z4, z5, z6, z7], mm, op⟩ ⟨((10 : Nat) : Int), (a : Int), (b : Int), (c : Int), m⟩ (Wd.app (((10 : Nat) : Int) + 5) 64 (([z0, z1, z2, z3, z4, z5, z6, z7] : List Int).getD b 0) (([z0, z1, z2, z3, z4, z5, z6, z7] : List Int).getD c 0)), (k : Int) + 1, 0) := by
      rw [← hrv b, ← hrv c]
      simp [Mc.act]
    rw [Mc.step_of hii e]
    obtain ⟨x, hx⟩ := Int.eq_ofNat_of_zero_le hx'.1
    obtain ⟨y, hyy⟩ := Int.eq_ofNat_of_zero_le hy'.1
    rw [hx] at hrb hx' ⊢
    rw [hyy] at hrc hy' ⊢
    exact rstep_appn mem stk inp Ad ld cd Af lf cf bc oc lc cc Ai li ci k ((10 : Nat) : Int) a ha mm op b c hb hcc8 m x y z0 z1 z2 z3 z4 z5 z6 z7 MA mn mc OA on occ w hkl' hbc hins hml hol hkM hrb hrc (by omega) (by omega) rfl rfl rfl rfl rfl rfl rfl rfl rfl rfl rfl rfl (by decide) (by decide) rfl rfl
  | 11, _ =>
    have hcc8 := key 11 rfl (by decide)
    have hx' := hrr b
    have hy' := hrr c
    have hrb := hreg b hb
    have hrc := hreg c hcc8
    have e : Mc.act P xs ⟨((11 : Nat) : Int), (a : Int), (b : Int), (c : Int), m⟩ ⟨(k : Int), [z0, z1, z2, z3, z4, z5, z6, z7], mm, op⟩ ((k : Int) + 1) = (Mc.wr ⟨(k : Int), [z0, z1, z2, z3, z4, z5, z6, z7], mm, op⟩ ⟨((11 : Nat) : Int), (a : Int), (b : Int), (c : Int), m⟩ (Wd.app (((11 : Nat) : Int) + 5) 64 (([z0, z1, z2, z3, z4, z5, z6, z7] : List Int).getD b 0) (([z0, z1, z2, z3, z4, z5, z6, z7] : List Int).getD c 0)), (k : Int) + 1, 0) := by
      rw [← hrv b, ← hrv c]
      simp [Mc.act]
    rw [Mc.step_of hii e]
    obtain ⟨x, hx⟩ := Int.eq_ofNat_of_zero_le hx'.1
    obtain ⟨y, hyy⟩ := Int.eq_ofNat_of_zero_le hy'.1
    rw [hx] at hrb hx' ⊢
    rw [hyy] at hrc hy' ⊢
    exact rstep_appn mem stk inp Ad ld cd Af lf cf bc oc lc cc Ai li ci k ((11 : Nat) : Int) a ha mm op b c hb hcc8 m x y z0 z1 z2 z3 z4 z5 z6 z7 MA mn mc OA on occ w hkl' hbc hins hml hol hkM hrb hrc (by omega) (by omega) rfl rfl rfl rfl rfl rfl rfl rfl rfl rfl rfl rfl (by decide) (by decide) rfl rfl
  | 12, _ =>
    have hcc8 := key 12 rfl (by decide)
    have hx' := hrr b
    have hy' := hrr c
    have hrb := hreg b hb
    have hrc := hreg c hcc8
    have e : Mc.act P xs ⟨((12 : Nat) : Int), (a : Int), (b : Int), (c : Int), m⟩ ⟨(k : Int), [z0, z1, z2, z3, z4, z5, z6, z7], mm, op⟩ ((k : Int) + 1) = (Mc.wr ⟨(k : Int), [z0, z1, z2, z3, z4, z5, z6, z7], mm, op⟩ ⟨((12 : Nat) : Int), (a : Int), (b : Int), (c : Int), m⟩ (Wd.app (((12 : Nat) : Int) + 5) 64 (([z0, z1, z2, z3, z4, z5, z6, z7] : List Int).getD b 0) (([z0, z1, z2, z3, z4, z5, z6, z7] : List Int).getD c 0)), (k : Int) + 1, 0) := by
      rw [← hrv b, ← hrv c]
      simp [Mc.act]
    rw [Mc.step_of hii e]
    obtain ⟨x, hx⟩ := Int.eq_ofNat_of_zero_le hx'.1
    obtain ⟨y, hyy⟩ := Int.eq_ofNat_of_zero_le hy'.1
    rw [hx] at hrb hx' ⊢
    rw [hyy] at hrc hy' ⊢
    exact rstep_appn mem stk inp Ad ld cd Af lf cf bc oc lc cc Ai li ci k ((12 : Nat) : Int) a ha mm op b c hb hcc8 m x y z0 z1 z2 z3 z4 z5 z6 z7 MA mn mc OA on occ w hkl' hbc hins hml hol hkM hrb hrc (by omega) (by omega) rfl rfl rfl rfl rfl rfl rfl rfl rfl rfl rfl rfl (by decide) (by decide) rfl rfl
  | 13, _ =>
    have hcc8 := key 13 rfl (by decide)
    have hx' := hrr b
    have hy' := hrr c
    have hrb := hreg b hb
    have hrc := hreg c hcc8
    have e : Mc.act P xs ⟨((13 : Nat) : Int), (a : Int), (b : Int), (c : Int), m⟩ ⟨(k : Int), [z0, z1, z2, z3, z4, z5, z6, z7], mm, op⟩ ((k : Int) + 1) = (Mc.wr ⟨(k : Int), [z0, z1, z2, z3, z4, z5, z6, z7], mm, op⟩ ⟨((13 : Nat) : Int), (a : Int), (b : Int), (c : Int), m⟩ (Wd.app (((13 : Nat) : Int) + 5) 64 (([z0, z1, z2, z3, z4, z5, z6, z7] : List Int).getD b 0) (([z0, z1, z2, z3, z4, z5, z6, z7] : List Int).getD c 0)), (k : Int) + 1, 0) := by
      rw [← hrv b, ← hrv c]
      simp [Mc.act]
    rw [Mc.step_of hii e]
    obtain ⟨x, hx⟩ := Int.eq_ofNat_of_zero_le hx'.1
    obtain ⟨y, hyy⟩ := Int.eq_ofNat_of_zero_le hy'.1
    rw [hx] at hrb hx' ⊢
    rw [hyy] at hrc hy' ⊢
    exact rstep_appn mem stk inp Ad ld cd Af lf cf bc oc lc cc Ai li ci k ((13 : Nat) : Int) a ha mm op b c hb hcc8 m x y z0 z1 z2 z3 z4 z5 z6 z7 MA mn mc OA on occ w hkl' hbc hins hml hol hkM hrb hrc (by omega) (by omega) rfl rfl rfl rfl rfl rfl rfl rfl rfl rfl rfl rfl (by decide) (by decide) rfl rfl
  | 14, _ =>
    have hcc8 := key 14 rfl (by decide)
    have hx' := hrr b
    have hy' := hrr c
    have hrb := hreg b hb
    have hrc := hreg c hcc8
    have e : Mc.act P xs ⟨((14 : Nat) : Int), (a : Int), (b : Int), (c : Int), m⟩ ⟨(k : Int), [z0, z1, z2, z3, z4, z5, z6, z7], mm, op⟩ ((k : Int) + 1) = (Mc.wr ⟨(k : Int), [z0, z1, z2, z3, z4, z5, z6, z7], mm, op⟩ ⟨((14 : Nat) : Int), (a : Int), (b : Int), (c : Int), m⟩ (Wd.app (((14 : Nat) : Int) + 5) 64 (([z0, z1, z2, z3, z4, z5, z6, z7] : List Int).getD b 0) (([z0, z1, z2, z3, z4, z5, z6, z7] : List Int).getD c 0)), (k : Int) + 1, 0) := by
      rw [← hrv b, ← hrv c]
      simp [Mc.act]
    rw [Mc.step_of hii e]
    obtain ⟨x, hx⟩ := Int.eq_ofNat_of_zero_le hx'.1
    obtain ⟨y, hyy⟩ := Int.eq_ofNat_of_zero_le hy'.1
    rw [hx] at hrb hx' ⊢
    rw [hyy] at hrc hy' ⊢
    exact rstep_appn mem stk inp Ad ld cd Af lf cf bc oc lc cc Ai li ci k ((14 : Nat) : Int) a ha mm op b c hb hcc8 m x y z0 z1 z2 z3 z4 z5 z6 z7 MA mn mc OA on occ w hkl' hbc hins hml hol hkM hrb hrc (by omega) (by omega) rfl rfl rfl rfl rfl rfl rfl rfl rfl rfl rfl rfl (by decide) (by decide) rfl rfl
  | 15, _ =>
    have hcc8 := key 15 rfl (by decide)
    have hx' := hrr b
    have hy' := hrr c
    have hrb := hreg b hb
    have hrc := hreg c hcc8
    have e : Mc.act P xs ⟨((15 : Nat) : Int), (a : Int), (b : Int), (c : Int), m⟩ ⟨(k : Int), [z0, z1, z2, z3, z4, z5, z6, z7], mm, op⟩ ((k : Int) + 1) = (Mc.wr ⟨(k : Int), [z0, z1, z2, z3, z4, z5, z6, z7], mm, op⟩ ⟨((15 : Nat) : Int), (a : Int), (b : Int), (c : Int), m⟩ (Wd.app (((15 : Nat) : Int) + 5) 64 (([z0, z1, z2, z3, z4, z5, z6, z7] : List Int).getD b 0) (([z0, z1, z2, z3, z4, z5, z6, z7] : List Int).getD c 0)), (k : Int) + 1, 0) := by
      rw [← hrv b, ← hrv c]
      simp [Mc.act]
    rw [Mc.step_of hii e]
    obtain ⟨x, hx⟩ := Int.eq_ofNat_of_zero_le hx'.1
    obtain ⟨y, hyy⟩ := Int.eq_ofNat_of_zero_le hy'.1
    rw [hx] at hrb hx' ⊢
    rw [hyy] at hrc hy' ⊢
    exact rstep_appn mem stk inp Ad ld cd Af lf cf bc oc lc cc Ai li ci k ((15 : Nat) : Int) a ha mm op b c hb hcc8 m x y z0 z1 z2 z3 z4 z5 z6 z7 MA mn mc OA on occ w hkl' hbc hins hml hol hkM hrb hrc (by omega) (by omega) rfl rfl rfl rfl rfl rfl rfl rfl rfl rfl rfl rfl (by decide) (by decide) rfl rfl
  | 16, _ =>
    have hcc8 := key 16 rfl (by decide)
    have hx' := hrr b
    have hy' := hrr c
    have hrb := hreg b hb
    have hrc := hreg c hcc8
    have e : Mc.act P xs ⟨((16 : Nat) : Int), (a : Int), (b : Int), (c : Int), m⟩ ⟨(k : Int), [z0, z1, z2, z3, z4, z5, z6, z7], mm, op⟩ ((k : Int) + 1) = (Mc.wr ⟨(k : Int), [z0, z1, z2, z3, z4, z5, z6, z7], mm, op⟩ ⟨((16 : Nat) : Int), (a : Int), (b : Int), (c : Int), m⟩ (Wd.app (((16 : Nat) : Int) + 5) 64 (([z0, z1, z2, z3, z4, z5, z6, z7] : List Int).getD b 0) (([z0, z1, z2, z3, z4, z5, z6, z7] : List Int).getD c 0)), (k : Int) + 1, 0) := by
      rw [← hrv b, ← hrv c]
      simp [Mc.act]
    rw [Mc.step_of hii e]
    obtain ⟨x, hx⟩ := Int.eq_ofNat_of_zero_le hx'.1
    obtain ⟨y, hyy⟩ := Int.eq_ofNat_of_zero_le hy'.1
    rw [hx] at hrb hx' ⊢
    rw [hyy] at hrc hy' ⊢
    exact rstep_appn mem stk inp Ad ld cd Af lf cf bc oc lc cc Ai li ci k ((16 : Nat) : Int) a ha mm op b c hb hcc8 m x y z0 z1 z2 z3 z4 z5 z6 z7 MA mn mc OA on occ w hkl' hbc hins hml hol hkM hrb hrc (by omega) (by omega) rfl rfl rfl rfl rfl rfl rfl rfl rfl rfl rfl rfl (by decide) (by decide) rfl rfl
  | n + 26, h => exact absurd h (by omega)
end Go.Proofs.YtfhnigfghfmolaaDoor
