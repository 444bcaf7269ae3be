/-
  The reference's funs.
-/
import Derived.Test.YtjadiijjahjjoaaDoorImN5
namespace Go.Proofs.YtjadiijjahjjoaaDoor
open Go.RowKit

namespace Im
/-- The place ahead of function k; -1 ahead of the first one. -/
def lst (xs : List Int) (a k : Nat) : Int := if k = 0 then -1 else fa xs a (k - 1)
def fns (xs : List Int) : List Int := (List.range (nf xs)).map (fa xs (fAt xs))
section
variable {xs : List Int}
theorem t10_short (h : xs.length = 9 + nd xs) : t10 xs = (1, (xs.length : Int)) := nm_short (by omega) _
theorem t10_bad (h : 9 + nd xs < xs.length) (hn : ¬ (1 ≤ num xs (9 + nd xs) 1 ∧ num xs (9 + nd xs) 1 ≤ 16)) : t10 xs = (3, ((9 + nd xs : Nat) : Int)) := nm_bad (by omega) hn _
theorem t10_ok (h : 9 + nd xs < xs.length) (h1 : 1 ≤ num xs (9 + nd xs) 1) (h2 : num xs (9 + nd xs) 1 ≤ 16) : t10 xs = dF xs (fAt xs) (nf xs) (t11 xs) := nm_ok (by omega) h1 h2 _
theorem fb_zero {a : Nat} (h : a + 2 ≤ xs.length) (hz : fa xs a 0 = 0) : fBad xs a 0 = false := by rw [fBad_zero h, hz]; rfl
theorem fb_zero' {a : Nat} (h : a + 2 ≤ xs.length) (hz : fa xs a 0 ≠ 0) : fBad xs a 0 = true := by rw [fBad_zero h]; exact decide_eq_true hz
theorem fb_succ {a k : Nat} (h : a + 2 * k + 2 ≤ xs.length) (hk : k ≠ 0) : fBad xs a k = decide (fa xs a k ≤ lst xs a k) := by
  obtain ⟨q, rfl⟩ : ∃ q, k = q + 1 := ⟨k - 1, by omega⟩
  rw [fBad_succ h]; rfl
theorem lst_succ (xs : List Int) (a k : Nat) : lst xs a (k + 1) = fa xs a k := rfl
theorem lst_bd (hB : Cd.isB xs) (a k : Nat) : -1 ≤ lst xs a k ∧ lst xs a k ≤ 65535 := by
  unfold lst
  split
  · omega
  · have := num_bd hB (a + 2 * (k - 1)) 2
    unfold fa
    omega
theorem fns_take (xs : List Int) (a k : Nat) : (List.range (k + 1)).map (fa xs a) = (List.range k).map (fa xs a) ++ [fa xs a k] := by
  rw [List.range_succ, List.map_append]; rfl
/-- Functions of which none is wrong lie where they should. -/
theorem fns_places {n : Nat} {f a : Nat} (hf : 1 ≤ f) (hl : a + 2 * f ≤ xs.length) (h : ∀ q, q < f → fBad xs a q = false) (hn : lst xs a f < n) : Places ((List.range f).map (fa xs a)) n := by
  have hg : ∀ q, q < f → ((List.range f).map (fa xs a)).getD q 0 = fa xs a q := fun q hq => by
    rw [List.getD_eq_getElem?_getD, List.getElem?_map, List.getElem?_range hq]; rfl
  refine ⟨?_, fun k hk => ?_, ?_⟩
  · rw [hg 0 (by omega)]
    have := h 0 (by omega)
    rw [fBad_zero (by omega)] at this
    simpa using this
  · rw [List.length_map, List.length_range] at hk
    rw [hg k (by omega), hg (k + 1) (by omega)]
    have := h (k + 1) (by omega)
    rw [fBad_succ (by omega)] at this
    simpa using this
  · rw [List.length_map, List.length_range, hg (f - 1) (by omega)]
    unfold lst at hn
    rwa [if_neg (by omega)] at hn
end
end Im

/-- What funs does. -/
def FuP (y5 y6 y7 : Int) (Ad : Option Addr) (ld cd : Nat) (xs : List Int) (w : World) (e : Ending) (w' : World) : Prop :=
  Below w.heap.size w w' ∧ ((∃ a b, Im.dE xs = (a, b) ∧ a ≠ 0 ∧ e = .returned (.tuple #[fv a b, .int .i64 0])) ∨
    (Im.dE xs = Im.t12 xs ∧ Im.sAt xs ≤ xs.length ∧ 1 ≤ Im.nf xs ∧ Im.nf xs ≤ 16 ∧ 1 ≤ Im.nk xs ∧ Im.nk xs ≤ 256 ∧ Im.Places (Im.fns xs) (Im.nk xs) ∧ ∃ Af lf cf, e = .returned (.tuple #[.agg #[.int .i64 y5, .int .i64 y6, .int .i64 y7, .slice Ad ld cd, .slice Af lf cf, .slice none 0 0, .int .i64 ((Im.sAt xs : Nat) : Int), .int .i64 0, .int .i64 0], .int .i64 ((Im.nk xs : Nat) : Int)]) ∧ InSl w' Af lf cf (Im.fns xs) ∧ (∀ b o s, Af = some ⟨b, o, s⟩ → w.heap.size ≤ b)))
theorem FuP.bad {y5 y6 y7 : Int} {Ad : Option Addr} {ld cd : Nat} {xs : List Int} {w w' : World} {a b : Int} (hb : Below w.heap.size w w') (h : Im.dE xs = (a, b)) (ha : a ≠ 0) : FuP y5 y6 y7 Ad ld cd xs w (.returned (.tuple #[fv a b, .int .i64 0])) w' := ⟨hb, .inl ⟨a, b, h, ha, rfl⟩⟩

theorem InSl.of_own {w : World} {base : Nat} {A : Option Addr} {n cap : Nat} {xs : List Int} (h : w.ownsRow base 3 1 (.slice A n cap) n (xs.map (Value.int .i64))) : InSl w A n cap xs := by
  obtain ⟨A', cap', he, h1, h2, hs, _⟩ := Sl.of_own h
  injection he with e1 e2 e3
  subst e1 e3
  have hl : xs.length = n := by have := hs.1; rwa [List.length_map] at this
  refine ⟨hl, h1, h2, fun hA => ?_, fun h0 => ?_⟩
  · rcases Nat.eq_zero_or_pos n with h0 | h0
    · exact h0
    · obtain ⟨b, o, e, _⟩ := hs.2 h0
      rw [hA] at e; cases e
  · obtain ⟨b, o, e, hlt, hc⟩ := hs.2 h0
    refine ⟨b, o, e, hlt, fun i hi => ?_⟩
    have := hc i (.int .i64 (xs.getD i 0)) (by rw [List.getElem?_map, List.getD_eq_getElem?_getD, List.getElem?_eq_getElem (by omega)]; rfl)
    rwa [add_at] at this
theorem own_set {w : World} {base : Nat} {e : TypeId} {size : Nat} {v : Value} {n : Nat} {xs : List Value} (h : w.ownsRow base e size v n xs) {p : Addr} (hp : p.block < base) (u : Value) : (w.setCell p u).ownsRow base e size v n xs := by
  refine ⟨h.1, ?_⟩
  rcases h.2 with h | ⟨g, cap, cur, hv, hb, hg, r⟩
  · exact .inl h
  · exact .inr ⟨g, cap, cur, hv, hb, (Below.heap_setCell _ _ _ _ (by omega)).trans hg, r⟩
theorem one_cell64 (xs : List Int) : ∀ u ∈ xs.map (Value.int .i64), u.oneCell' = true := fun u hu => by
  obtain ⟨x, _, rfl⟩ := List.mem_map.1 hu
  rfl

set_option maxRecDepth 20000 in
set_option maxHeartbeats 3200000 in
theorem funs_ref (b o len cap : Nat) (xs : List Int) (y5 y6 y7 : Int) (Ad : Option Addr) (ld cd i : Nat) (w : World) (hx : BySl w (some ⟨b, o, none⟩) len cap xs) (hl : len ≤ 1000000) (hi : 9 + Im.nd xs = i) (hil : i ≤ len) (hd : Im.dE xs = Im.t10 xs) :
    Calls Tryd.prog 32 #[.slice (some ⟨b, o, none⟩) len cap, .agg #[.int .i64 y5, .int .i64 y6, .int .i64 y7, .slice Ad ld cd, .slice none 0 0, .slice none 0 0, .int .i64 i, .int .i64 0, .int .i64 0]] w (FuP y5 y6 y7 Ad ld cd xs w) := by
  obtain ⟨i0, hi0, hz0, hz1, hz2⟩ := info_parts i64_info
  have hlen := hx.hlen
  have hlc := hx.hle
  have hcp := hx.hcap
  unfold maxLen at hcp
  have HB8 := Lib.hid hx.isB
  have HLEN := Lib.hid hlen
  have HX0 := Lib.hid hx
  have hB0 : Below w.heap.size w ((w.alloc (.cells #[.int .i64 y5, .int .i64 y6, .int .i64 y7, .slice Ad ld cd, .slice none 0 0, .slice none 0 0, .int .i64 i, .int .i64 0, .int .i64 0] 62)).alloc (.cells #[.int .i64 0, .int .i64 0, .int .i64 0, .slice none 0 0, .slice none 0 0, .slice none 0 0, .int .i64 0, .int .i64 0, .int .i64 0] 62)) := ((Below.refl _ _).alloc (Nat.le_refl _) _).alloc (by simp) _
  have HBW := Lib.hid hB0
  have hNB : NB ((w.alloc (.cells #[.int .i64 y5, .int .i64 y6, .int .i64 y7, .slice Ad ld cd, .slice none 0 0, .slice none 0 0, .int .i64 i, .int .i64 0, .int .i64 0] 62)).alloc (.cells #[.int .i64 0, .int .i64 0, .int .i64 0, .slice none 0 0, .slice none 0 0, .slice none 0 0, .int .i64 0, .int .i64 0, .int .i64 0] 62)) (w.heap.size + 1) (.int .i64 0) (.int .i64 0) (.int .i64 0) (.slice none 0 0) (.slice none 0 0) (.slice none 0 0) (.int .i64 0) (.int .i64 0) (.int .i64 0) := by
    have := heap_alloc_new (w.alloc (.cells #[.int .i64 y5, .int .i64 y6, .int .i64 y7, .slice Ad ld cd, .slice none 0 0, .slice none 0 0, .int .i64 i, .int .i64 0, .int .i64 0] 62)) (.cells #[.int .i64 0, .int .i64 0, .int .i64 0, .slice none 0 0, .slice none 0 0, .slice none 0 0, .int .i64 0, .int .i64 0, .int .i64 0] 62)
    rwa [World.size_alloc] at this
  have HNB := Lib.hid hNB
  have hNG : NB ((w.alloc (.cells #[.int .i64 y5, .int .i64 y6, .int .i64 y7, .slice Ad ld cd, .slice none 0 0, .slice none 0 0, .int .i64 i, .int .i64 0, .int .i64 0] 62)).alloc (.cells #[.int .i64 0, .int .i64 0, .int .i64 0, .slice none 0 0, .slice none 0 0, .slice none 0 0, .int .i64 0, .int .i64 0, .int .i64 0] 62)) w.heap.size (.int .i64 y5) (.int .i64 y6) (.int .i64 y7) (.slice Ad ld cd) (.slice none 0 0) (.slice none 0 0) (.int .i64 i) (.int .i64 0) (.int .i64 0) := by
    show _ = _
    rw [Below.heap_alloc _ _ _ (by simp)]
    exact heap_alloc_new w _
  have HNG := Lib.hid hNG
  have HD := Lib.hid hd
  have HI := Lib.hid hi
  clear hx hlen hB0 hNB hNG hd hi
  by_cases hs : i = len
  · have HD1 := Lib.hid (show Im.dE xs = (1, (len : Int)) by rw [HD.out, Im.t10_short (by rw [HLEN.out, HI.out]; exact hs.symm), HLEN.out])
    have hq : ((i : Int) == (len : Int)) = true := by simp [hs]
    clear hs
    go_enter Tryd.func32, Tryd.ntmps32
    go_wp2_with fail
    refine (rfault_any _ _ _).mono ?_
    rintro e v ⟨rfl, hb⟩
    have HN := Lib.hid (HNB.out.keep hb)
    have HB := Lib.hid (HBW.out.trans (hb.mono HBW.out.size))
    have e0 := HN.out.c0
    have e1 := HN.out.c1
    have e2 := HN.out.c2
    have e3 := HN.out.c3
    have e4 := HN.out.c4
    have e5 := HN.out.c5
    have e6 := HN.out.c6
    have e7 := HN.out.c7
    have e8 := HN.out.c8
    have fr := HN.out.fr
    clear hb
    go_wp2
    have hall := NB.all HN.out (.int .i64 0) (.int .i64 0) (.int .i64 0) (.slice none 0 0) (.slice none 0 0) (.slice none 0 0) (.int .i64 0) (.int .i64 1) (.int .i64 len)
    have hbel := set9_below HB.out (Nat.le_succ w.heap.size) (.int .i64 0) (.int .i64 0) (.int .i64 0) (.slice none 0 0) (.slice none 0 0) (.slice none 0 0) (.int .i64 0) (.int .i64 1) (.int .i64 len)
    clear e0 e1 e2 e3 e4 e5 e6 e7 e8 fr HN HB
    revert hall hbel
    generalize (((((((((v.setCell ⟨w.heap.size + 1, 0, none⟩ (.int .i64 0)).setCell ⟨w.heap.size + 1, 1, none⟩ (.int .i64 0)).setCell ⟨w.heap.size + 1, 2, none⟩ (.int .i64 0)).setCell ⟨w.heap.size + 1, 3, none⟩ (.slice none 0 0)).setCell ⟨w.heap.size + 1, 4, none⟩ (.slice none 0 0)).setCell ⟨w.heap.size + 1, 5, none⟩ (.slice none 0 0)).setCell ⟨w.heap.size + 1, 6, none⟩ (.int .i64 0)).setCell ⟨w.heap.size + 1, 7, none⟩ (.int .i64 1)).setCell ⟨w.heap.size + 1, 8, none⟩ (.int .i64 len)) = W'
    intro hall hbel
    have k0 := hall.c0
    have k1 := hall.c1
    have k2 := hall.c2
    have k3 := hall.c3
    have k4 := hall.c4
    have k5 := hall.c5
    have k6 := hall.c6
    have k7 := hall.c7
    have k8 := hall.c8
    refine bodyPost_ret (v := .tuple #[fv 1 len, .int .i64 0]) (by simp [results, Tryd.results32, go_sem, k0, k1, k2, k3, k4, k5, k6, k7, k8]) rfl (FuP.bad hbel HD1.out (by decide))
  · have hq : ((i : Int) == (len : Int)) = false := by simp; omega
    have hil' : i < len := by omega
    have hix : (i : Int) < len := by omega
    obtain ⟨b', o', he, hbw, hby⟩ := HX0.out.mem (by omega)
    simp only [Option.some.injEq, Addr.mk.injEq, and_true] at he
    obtain ⟨rfl, rfl⟩ := he
    have hz := HB8.out i
    have cz : ((w.alloc (.cells #[.int .i64 y5, .int .i64 y6, .int .i64 y7, .slice Ad ld cd, .slice none 0 0, .slice none 0 0, .int .i64 i, .int .i64 0, .int .i64 0] 62)).alloc (.cells #[.int .i64 0, .int .i64 0, .int .i64 0, .slice none 0 0, .slice none 0 0, .slice none 0 0, .int .i64 0, .int .i64 0, .int .i64 0] 62)).cell? ⟨b, o + i, none⟩ = some (.int .u8 (xs.getD i 0)) := (HBW.out.cell (p := ⟨b, o + i, none⟩) hbw).trans (hby.at0 i (by rw [HLEN.out]; exact hil'))
    obtain ⟨z, hzz⟩ : ∃ z, xs.getD i 0 = z := ⟨_, rfl⟩
    rw [hzz] at cz hz
    obtain ⟨n, rfl⟩ : ∃ n : Nat, z = n := ⟨z.toNat, by omega⟩
    have wz : IntKind.i64.wrap (n : Int) = n := by rw [IntKind.wrap_i64]; omega
    have HNF := Lib.hid (show Im.num xs (9 + Im.nd xs) 1 = (n : Int) by rw [HI.out, Im.num1, hzz])
    have HNF' := Lib.hid (show Im.nf xs = n by unfold Im.nf; rw [HNF.out]; rfl)
    have HFA := Lib.hid (show Im.fAt xs = i + 1 by unfold Im.fAt; rw [HI.out])
    clear hs hzz hby
    by_cases hn : 1 ≤ n ∧ n ≤ 16
    · obtain ⟨n1, n2⟩ := hn
      have HD2 := Lib.hid (show Im.dE xs = Im.dF xs (i + 1) n (Im.t11 xs) by rw [HD.out, Im.t10_ok (by rw [HLEN.out, HI.out]; exact hil') (by rw [HNF.out]; omega) (by rw [HNF.out]; omega), HFA.out, HNF'.out])
      have n1' : ¬ (n : Int) < 1 := by omega
      have n2' : ¬ 16 < (n : Int) := by omega
      go_enter Tryd.func32, Tryd.ntmps32
      have g0 := HNG.out.c6
      have gf := HNG.out.fr
      go_wp2
      have HS1 := Lib.hid (show NB ((w.alloc (.cells #[.int .i64 y5, .int .i64 y6, .int .i64 y7, .slice Ad ld cd, .slice none 0 0, .slice none 0 0, .int .i64 ((i : Int) + 1), .int .i64 0, .int .i64 0] 62)).alloc (.cells #[.int .i64 0, .int .i64 0, .int .i64 0, .slice none 0 0, .slice none 0 0, .slice none 0 0, .int .i64 0, .int .i64 0, .int .i64 0] 62)) w.heap.size (.int .i64 y5) (.int .i64 y6) (.int .i64 y7) (.slice Ad ld cd) (.slice none 0 0) (.slice none 0 0) (.int .i64 ((i : Int) + 1)) (.int .i64 0) (.int .i64 0) from by
        show _ = _
        rw [Below.heap_alloc _ _ _ (by simp)]
        exact heap_alloc_new w _)
      have HS2 := Lib.hid (show NB ((w.alloc (.cells #[.int .i64 y5, .int .i64 y6, .int .i64 y7, .slice Ad ld cd, .slice none 0 0, .slice none 0 0, .int .i64 ((i : Int) + 1), .int .i64 0, .int .i64 0] 62)).alloc (.cells #[.int .i64 0, .int .i64 0, .int .i64 0, .slice none 0 0, .slice none 0 0, .slice none 0 0, .int .i64 0, .int .i64 0, .int .i64 0] 62)) (w.heap.size + 1) (.int .i64 0) (.int .i64 0) (.int .i64 0) (.slice none 0 0) (.slice none 0 0) (.slice none 0 0) (.int .i64 0) (.int .i64 0) (.int .i64 0) from by
        have := heap_alloc_new (w.alloc (.cells #[.int .i64 y5, .int .i64 y6, .int .i64 y7, .slice Ad ld cd, .slice none 0 0, .slice none 0 0, .int .i64 ((i : Int) + 1), .int .i64 0, .int .i64 0] 62)) (.cells #[.int .i64 0, .int .i64 0, .int .i64 0, .slice none 0 0, .slice none 0 0, .slice none 0 0, .int .i64 0, .int .i64 0, .int .i64 0] 62)
        rwa [World.size_alloc] at this)
      have HS3 := Lib.hid (show Below w.heap.size w ((w.alloc (.cells #[.int .i64 y5, .int .i64 y6, .int .i64 y7, .slice Ad ld cd, .slice none 0 0, .slice none 0 0, .int .i64 ((i : Int) + 1), .int .i64 0, .int .i64 0] 62)).alloc (.cells #[.int .i64 0, .int .i64 0, .int .i64 0, .slice none 0 0, .slice none 0 0, .slice none 0 0, .int .i64 0, .int .i64 0, .int .i64 0] 62)) from ((Below.refl _ _).alloc (Nat.le_refl _) _).alloc (by simp) _)
      clear g0 gf cz
      go_loopw [7, 8, 9] (fun l j f wr => ∃ k : Nat, k ≤ n ∧ j = .int .i64 k ∧ l = .int .i64 (Im.lst xs (i + 1) k) ∧ (∀ q, q < k → Im.fBad xs (i + 1) q = false) ∧ i + 1 + 2 * k ≤ len ∧ Below w.heap.size w wr ∧ NB wr (w.heap.size + 1) (.int .i64 0) (.int .i64 0) (.int .i64 0) (.slice none 0 0) (.slice none 0 0) (.slice none 0 0) (.int .i64 0) (.int .i64 0) (.int .i64 0) ∧ ∃ A c, NB wr w.heap.size (.int .i64 y5) (.int .i64 y6) (.int .i64 y7) (.slice Ad ld cd) (.slice A k c) (.slice none 0 0) (.int .i64 ((i : Int) + 1 + 2 * k)) (.int .i64 0) (.int .i64 0) ∧ wr.ownsRow (w.heap.size + 2) 3 1 (.slice A k c) k (((List.range k).map (Im.fa xs (i + 1))).map (Value.int .i64))) (fun _ j _ _ => n - (intOf j).toNat)
      case atStart =>
        refine ⟨0, by omega, rfl, rfl, (fun q hq => by omega), by omega, HS3.out, HS2.out, none, 0, by simpa using HS1.out, ?_⟩
        exact ⟨rfl, .inl ⟨rfl, rfl⟩⟩
      case round =>
        obtain ⟨k, hk, rfl, rfl, hall, hik, hbr, hnb, A, c, hng, hown⟩ := hrel
        have HALL := Lib.hid hall
        have HBW2 := Lib.hid hbr
        have HNB2 := Lib.hid hnb
        have HNG2 := Lib.hid hng
        have HOWN := Lib.hid hown
        have hsz : w.heap.size + 2 ≤ wr.heap.size := by have := HNB2.out.lt; omega
        have lb := Im.lst_bd HB8.out (i + 1) k
        obtain ⟨l, hlq⟩ : ∃ l, Im.lst xs (i + 1) k = l := ⟨_, rfl⟩
        rw [hlq] at lb ⊢
        have HL := Lib.hid hlq
        clear hall hbr hnb hng hown hlq HS1 HS2 HS3
        have q6 := HNG2.out.c6
        have q4 := HNG2.out.c4
        have qf := HNG2.out.fr
        by_cases hkn : k < n
        · have hkn' : (k : Int) < n := by omega
          by_cases hsh : len < i + 1 + 2 * k + 2
          · have hsh' : (len : Int) < (i : Int) + 1 + 2 * k + 2 := by omega
            have HD1 := Lib.hid (show Im.dE xs = (1, (len : Int)) by rw [HD2.out, Im.dF_at hkn (fBad_short (by rw [HLEN.out]; omega)) HALL.out, if_pos (by rw [HLEN.out]; omega), HLEN.out])
            clear HNB HBW
            have HNB := HNB2
            have HBW := HBW2
            clear HNB2 HBW2
            go_wp2_with fail
            refine (rfault_any _ _ _).mono ?_
            rintro e v ⟨rfl, hb⟩
            have HN := Lib.hid (HNB.out.keep hb)
            have HB := Lib.hid (HBW.out.trans (hb.mono HBW.out.size))
            have e0 := HN.out.c0
            have e1 := HN.out.c1
            have e2 := HN.out.c2
            have e3 := HN.out.c3
            have e4 := HN.out.c4
            have e5 := HN.out.c5
            have e6 := HN.out.c6
            have e7 := HN.out.c7
            have e8 := HN.out.c8
            have fr := HN.out.fr
            clear hb
            go_wp2
            have hall := NB.all HN.out (.int .i64 0) (.int .i64 0) (.int .i64 0) (.slice none 0 0) (.slice none 0 0) (.slice none 0 0) (.int .i64 0) (.int .i64 1) (.int .i64 len)
            have hbel := set9_below HB.out (Nat.le_succ w.heap.size) (.int .i64 0) (.int .i64 0) (.int .i64 0) (.slice none 0 0) (.slice none 0 0) (.slice none 0 0) (.int .i64 0) (.int .i64 1) (.int .i64 len)
            clear e0 e1 e2 e3 e4 e5 e6 e7 e8 fr HN HB
            revert hall hbel
            generalize (((((((((v.setCell ⟨w.heap.size + 1, 0, none⟩ (.int .i64 0)).setCell ⟨w.heap.size + 1, 1, none⟩ (.int .i64 0)).setCell ⟨w.heap.size + 1, 2, none⟩ (.int .i64 0)).setCell ⟨w.heap.size + 1, 3, none⟩ (.slice none 0 0)).setCell ⟨w.heap.size + 1, 4, none⟩ (.slice none 0 0)).setCell ⟨w.heap.size + 1, 5, none⟩ (.slice none 0 0)).setCell ⟨w.heap.size + 1, 6, none⟩ (.int .i64 0)).setCell ⟨w.heap.size + 1, 7, none⟩ (.int .i64 1)).setCell ⟨w.heap.size + 1, 8, none⟩ (.int .i64 len)) = W'
            intro hall hbel
            have k0 := hall.c0
            have k1 := hall.c1
            have k2 := hall.c2
            have k3 := hall.c3
            have k4 := hall.c4
            have k5 := hall.c5
            have k6 := hall.c6
            have k7 := hall.c7
            have k8 := hall.c8
            refine bodyPost_ret (v := .tuple #[fv 1 len, .int .i64 0]) (by simp [results, Tryd.results32, go_sem, k0, k1, k2, k3, k4, k5, k6, k7, k8]) rfl (FuP.bad hbel HD1.out (by decide))
          · have hsh' : ¬ (len : Int) < (i : Int) + 1 + 2 * k + 2 := by omega
            have hxr := HX0.out.below HBW2.out
            have HTW := Lib.hid (rtwo_any b o len cap (i + 1 + 2 * k) xs wr hxr (by omega))
            have hzb := Im.num_bd HB8.out (i + 1 + 2 * k) 2
            obtain ⟨z, hz⟩ : ∃ z, Im.num xs (i + 1 + 2 * k) 2 = z := ⟨_, rfl⟩
            rw [hz] at hzb HTW
            have HZ := Lib.hid (show Im.fa xs (i + 1) k = z from hz)
            have hcast : (((i + 1 + 2 * k : Nat) : Int)) = (i : Int) + 1 + 2 * k := by omega
            rw [hcast] at HTW
            clear hxr hz hcast
            go_wp2_with fail
            refine HTW.out.mono ?_
            rintro e v ⟨rfl, hb⟩
            have HNB3 := Lib.hid (HNB2.out.keep hb)
            have HNG3 := Lib.hid (HNG2.out.keep hb)
            have HBW3 := Lib.hid (HBW2.out.trans (hb.mono HBW2.out.size))
            have HOW3 := Lib.hid (own_below HOWN.out hb)
            have hsz3 : w.heap.size + 2 ≤ v.heap.size := by have := hb.size; omega
            clear hb q6 q4 qf HNB2 HNG2 HBW2 HOWN HTW
            have q6 := HNG3.out.c6
            have q4 := HNG3.out.c4
            have qf := HNG3.out.fr
            by_cases hk0 : k = 0
            · have e0 : ((k : Int) == 0) = true := by simp [hk0]
              by_cases hz0' : z = 0
              · have ez : (z != 0) = false := by simpa using hz0'
                have HFB := Lib.hid (show Im.fBad xs (i + 1) k = false by subst hk0; exact Im.fb_zero (by rw [HLEN.out]; omega) (HZ.out.trans hz0'))
                have hzl : ¬ z ≤ l := by
                  have := HL.out
                  subst hk0
                  have h2 : Im.lst xs (i + 1) 0 = -1 := rfl
                  omega
                clear hk0 hz0'
                go_wp2_with (
                  at_builtin
                  refine wpList_ap (w := v.alloc (.cells #[.int .i64 z] 3)) rfl (.tmp 72) (.tmp 74) _ rfl (w.heap.size + 2) 3 i0 _ 8 Tryd.underlying23 hi0 hz0 hz1 hz2 rfl (.slice A k c) k _ rfl
                    (HOW3.out.alloc _) (some ⟨v.heap.size, 0, none⟩) 1 1 [.int .i64 z] rfl (Sl.new v [.int .i64 z] 3) (fun e => by cases e) (one_cell64 [z]) (by simp only [maxLen]; omega) (by omega) (by simp; omega) (k + 1) (((List.range (k + 1)).map (Im.fa xs (i + 1))).map (Value.int .i64)) rfl (by rw [Im.fns_take, HZ.out]; simp) ?_
                  intro A4 cap4 w4 hc1 hc2 hown4 hsl4 hb4
                  have hb5 : Below (w.heap.size + 2) v w4 := ((Below.refl _ _).alloc hsz3 _).trans hb4
                  have HN4 := Lib.hid ((hb5.block (w.heap.size + 1) (by omega)).trans HNB3.out)
                  have HG4 := Lib.hid ((hb5.block w.heap.size (by omega)).trans HNG3.out)
                  have HB4 := Lib.hid (HBW3.out.trans (hb5.mono (by omega)))
                  have HO4 := Lib.hid hown4
                  have u4 := NB.c4 HG4.out
                  have u6 := NB.c6 HG4.out
                  have uf := NB.fr HG4.out
                  clear hc1 hc2 hown4 hsl4 hb4 hb5 q6 q4 qf)
                go_roundw
                case rel =>
                  refine ⟨k + 1, by omega, by go_num, by rw [Im.lst_succ, HZ.out], (fun q hq => ?_), by omega, (HB4.out.setCell (Nat.le_refl _) _).setCell (Nat.le_refl _) _, (NB.other (NB.other HN4.out (p := ⟨w.heap.size, 4, none⟩) (by simp) _) (p := ⟨w.heap.size, 6, none⟩) (by simp) _), A4, cap4, ?_, own_set (own_set HO4.out (p := ⟨w.heap.size, 4, none⟩) (by simp) _) (p := ⟨w.heap.size, 6, none⟩) (by simp) _⟩
                  · rcases Nat.lt_succ_iff_lt_or_eq.1 hq with h | h
                    · exact HALL.out q h
                    · rw [h]; exact HFB.out
                  · rw [show (i : Int) + 1 + 2 * ((k + 1 : Nat) : Int) = (i : Int) + 1 + 2 * k + 2 by omega]
                    exact NB.s6 (NB.s4 HG4.out _) _
                case measure => simp [intOf]; omega
              · have ez : (z != 0) = true := by simpa using hz0'
                have HD1 := Lib.hid (show Im.dE xs = (3, (i : Int) + 1 + 2 * k) by
                  rw [HD2.out, Im.dF_at hkn (by subst hk0; exact Im.fb_zero' (by rw [HLEN.out]; omega) (by rw [HZ.out]; exact hz0')) HALL.out, if_neg (by rw [HLEN.out]; omega)]
                  congr 1)
                clear hk0 hz0' HNB HBW
                have HNB := HNB3
                have HBW := HBW3
                clear HNB3 HBW3
                go_wp2_with fail
                refine (rfault_any _ _ _).mono ?_
                rintro e v ⟨rfl, hb⟩
                have HN := Lib.hid (HNB.out.keep hb)
                have HB := Lib.hid (HBW.out.trans (hb.mono HBW.out.size))
                have e0 := HN.out.c0
                have e1 := HN.out.c1
                have e2 := HN.out.c2
                have e3 := HN.out.c3
                have e4 := HN.out.c4
                have e5 := HN.out.c5
                have e6 := HN.out.c6
                have e7 := HN.out.c7
                have e8 := HN.out.c8
                have fr := HN.out.fr
                clear hb
                go_wp2
                have hall := NB.all HN.out (.int .i64 0) (.int .i64 0) (.int .i64 0) (.slice none 0 0) (.slice none 0 0) (.slice none 0 0) (.int .i64 0) (.int .i64 3) (.int .i64 ((i : Int) + 1 + 2 * k))
                have hbel := set9_below HB.out (Nat.le_succ w.heap.size) (.int .i64 0) (.int .i64 0) (.int .i64 0) (.slice none 0 0) (.slice none 0 0) (.slice none 0 0) (.int .i64 0) (.int .i64 3) (.int .i64 ((i : Int) + 1 + 2 * k))
                clear e0 e1 e2 e3 e4 e5 e6 e7 e8 fr HN HB
                revert hall hbel
                generalize (((((((((v.setCell ⟨w.heap.size + 1, 0, none⟩ (.int .i64 0)).setCell ⟨w.heap.size + 1, 1, none⟩ (.int .i64 0)).setCell ⟨w.heap.size + 1, 2, none⟩ (.int .i64 0)).setCell ⟨w.heap.size + 1, 3, none⟩ (.slice none 0 0)).setCell ⟨w.heap.size + 1, 4, none⟩ (.slice none 0 0)).setCell ⟨w.heap.size + 1, 5, none⟩ (.slice none 0 0)).setCell ⟨w.heap.size + 1, 6, none⟩ (.int .i64 0)).setCell ⟨w.heap.size + 1, 7, none⟩ (.int .i64 3)).setCell ⟨w.heap.size + 1, 8, none⟩ (.int .i64 ((i : Int) + 1 + 2 * k))) = W'
                intro hall hbel
                have k0 := hall.c0
                have k1 := hall.c1
                have k2 := hall.c2
                have k3 := hall.c3
                have k4 := hall.c4
                have k5 := hall.c5
                have k6 := hall.c6
                have k7 := hall.c7
                have k8 := hall.c8
                refine bodyPost_ret (v := .tuple #[fv 3 ((i : Int) + 1 + 2 * k), .int .i64 0]) (by simp [results, Tryd.results32, go_sem, k0, k1, k2, k3, k4, k5, k6, k7, k8]) rfl (FuP.bad hbel HD1.out (by decide))
            · have e0 : ((k : Int) == 0) = false := by simp; omega
              have hfb := Im.fb_succ (xs := xs) (a := i + 1) (k := k) (by rw [HLEN.out]; omega) hk0
              rw [HZ.out, HL.out] at hfb
              by_cases hzl : z ≤ l
              · have HD1 := Lib.hid (show Im.dE xs = (3, (i : Int) + 1 + 2 * k) by
                  rw [HD2.out, Im.dF_at hkn (by rw [hfb]; exact decide_eq_true hzl) HALL.out, if_neg (by rw [HLEN.out]; omega)]
                  congr 1)
                clear hk0 hfb HNB HBW
                have HNB := HNB3
                have HBW := HBW3
                clear HNB3 HBW3
                go_wp2_with fail
                refine (rfault_any _ _ _).mono ?_
                rintro e v ⟨rfl, hb⟩
                have HN := Lib.hid (HNB.out.keep hb)
                have HB := Lib.hid (HBW.out.trans (hb.mono HBW.out.size))
                have e0 := HN.out.c0
                have e1 := HN.out.c1
                have e2 := HN.out.c2
                have e3 := HN.out.c3
                have e4 := HN.out.c4
                have e5 := HN.out.c5
                have e6 := HN.out.c6
                have e7 := HN.out.c7
                have e8 := HN.out.c8
                have fr := HN.out.fr
                clear hb
                go_wp2
                have hall := NB.all HN.out (.int .i64 0) (.int .i64 0) (.int .i64 0) (.slice none 0 0) (.slice none 0 0) (.slice none 0 0) (.int .i64 0) (.int .i64 3) (.int .i64 ((i : Int) + 1 + 2 * k))
                have hbel := set9_below HB.out (Nat.le_succ w.heap.size) (.int .i64 0) (.int .i64 0) (.int .i64 0) (.slice none 0 0) (.slice none 0 0) (.slice none 0 0) (.int .i64 0) (.int .i64 3) (.int .i64 ((i : Int) + 1 + 2 * k))
                clear e0 e1 e2 e3 e4 e5 e6 e7 e8 fr HN HB
                revert hall hbel
                generalize (((((((((v.setCell ⟨w.heap.size + 1, 0, none⟩ (.int .i64 0)).setCell ⟨w.heap.size + 1, 1, none⟩ (.int .i64 0)).setCell ⟨w.heap.size + 1, 2, none⟩ (.int .i64 0)).setCell ⟨w.heap.size + 1, 3, none⟩ (.slice none 0 0)).setCell ⟨w.heap.size + 1, 4, none⟩ (.slice none 0 0)).setCell ⟨w.heap.size + 1, 5, none⟩ (.slice none 0 0)).setCell ⟨w.heap.size + 1, 6, none⟩ (.int .i64 0)).setCell ⟨w.heap.size + 1, 7, none⟩ (.int .i64 3)).setCell ⟨w.heap.size + 1, 8, none⟩ (.int .i64 ((i : Int) + 1 + 2 * k))) = W'
                intro hall hbel
                have k0 := hall.c0
                have k1 := hall.c1
                have k2 := hall.c2
                have k3 := hall.c3
                have k4 := hall.c4
                have k5 := hall.c5
                have k6 := hall.c6
                have k7 := hall.c7
                have k8 := hall.c8
                refine bodyPost_ret (v := .tuple #[fv 3 ((i : Int) + 1 + 2 * k), .int .i64 0]) (by simp [results, Tryd.results32, go_sem, k0, k1, k2, k3, k4, k5, k6, k7, k8]) rfl (FuP.bad hbel HD1.out (by decide))
              · have HFB := Lib.hid (show Im.fBad xs (i + 1) k = false by rw [hfb]; exact decide_eq_false hzl)
                clear hk0 hfb
                go_wp2_with (
                  at_builtin
                  refine wpList_ap (w := v.alloc (.cells #[.int .i64 z] 3)) rfl (.tmp 72) (.tmp 74) _ rfl (w.heap.size + 2) 3 i0 _ 8 Tryd.underlying23 hi0 hz0 hz1 hz2 rfl (.slice A k c) k _ rfl
                    (HOW3.out.alloc _) (some ⟨v.heap.size, 0, none⟩) 1 1 [.int .i64 z] rfl (Sl.new v [.int .i64 z] 3) (fun e => by cases e) (one_cell64 [z]) (by simp only [maxLen]; omega) (by omega) (by simp; omega) (k + 1) (((List.range (k + 1)).map (Im.fa xs (i + 1))).map (Value.int .i64)) rfl (by rw [Im.fns_take, HZ.out]; simp) ?_
                  intro A4 cap4 w4 hc1 hc2 hown4 hsl4 hb4
                  have hb5 : Below (w.heap.size + 2) v w4 := ((Below.refl _ _).alloc hsz3 _).trans hb4
                  have HN4 := Lib.hid ((hb5.block (w.heap.size + 1) (by omega)).trans HNB3.out)
                  have HG4 := Lib.hid ((hb5.block w.heap.size (by omega)).trans HNG3.out)
                  have HB4 := Lib.hid (HBW3.out.trans (hb5.mono (by omega)))
                  have HO4 := Lib.hid hown4
                  have u4 := NB.c4 HG4.out
                  have u6 := NB.c6 HG4.out
                  have uf := NB.fr HG4.out
                  clear hc1 hc2 hown4 hsl4 hb4 hb5 q6 q4 qf)
                go_roundw
                case rel =>
                  refine ⟨k + 1, by omega, by go_num, by rw [Im.lst_succ, HZ.out], (fun q hq => ?_), by omega, (HB4.out.setCell (Nat.le_refl _) _).setCell (Nat.le_refl _) _, (NB.other (NB.other HN4.out (p := ⟨w.heap.size, 4, none⟩) (by simp) _) (p := ⟨w.heap.size, 6, none⟩) (by simp) _), A4, cap4, ?_, own_set (own_set HO4.out (p := ⟨w.heap.size, 4, none⟩) (by simp) _) (p := ⟨w.heap.size, 6, none⟩) (by simp) _⟩
                  · rcases Nat.lt_succ_iff_lt_or_eq.1 hq with h | h
                    · exact HALL.out q h
                    · rw [h]; exact HFB.out
                  · rw [show (i : Int) + 1 + 2 * ((k + 1 : Nat) : Int) = (i : Int) + 1 + 2 * k + 2 by omega]
                    exact NB.s6 (NB.s4 HG4.out _) _
                case measure => simp [intOf]; omega
        · have hkn' : ¬ (k : Int) < n := by omega
          obtain rfl : k = n := by omega
          have HDT := Lib.hid (show Im.dE xs = Im.t11 xs by rw [HD2.out, Im.dF_ok HALL.out])
          have HCA := Lib.hid (show Im.cAt xs = i + 1 + 2 * k by unfold Im.cAt; rw [HFA.out, HNF'.out])
          have HLL := Lib.hid (show Im.fa xs (Im.fAt xs) (Im.nf xs - 1) = l by rw [HFA.out, HNF'.out]; have := HL.out; unfold Im.lst at this; rwa [if_neg (by omega)] at this)
          by_cases hsh : len < i + 1 + 2 * k + 2
          · have hsh' : (len : Int) < (i : Int) + 1 + 2 * k + 2 := by omega
            have HD1 := Lib.hid (show Im.dE xs = (1, (len : Int)) by rw [HDT.out]; unfold Im.t11; rw [Im.nm_short (by rw [HCA.out, HLEN.out]; omega), HLEN.out])
            clear HNB HBW
            have HNB := HNB2
            have HBW := HBW2
            clear HNB2 HBW2
            go_wp2_with fail
            refine (rfault_any _ _ _).mono ?_
            rintro e v ⟨rfl, hb⟩
            have HN := Lib.hid (HNB.out.keep hb)
            have HB := Lib.hid (HBW.out.trans (hb.mono HBW.out.size))
            have e0 := HN.out.c0
            have e1 := HN.out.c1
            have e2 := HN.out.c2
            have e3 := HN.out.c3
            have e4 := HN.out.c4
            have e5 := HN.out.c5
            have e6 := HN.out.c6
            have e7 := HN.out.c7
            have e8 := HN.out.c8
            have fr := HN.out.fr
            clear hb
            go_wp2
            have hall := NB.all HN.out (.int .i64 0) (.int .i64 0) (.int .i64 0) (.slice none 0 0) (.slice none 0 0) (.slice none 0 0) (.int .i64 0) (.int .i64 1) (.int .i64 len)
            have hbel := set9_below HB.out (Nat.le_succ w.heap.size) (.int .i64 0) (.int .i64 0) (.int .i64 0) (.slice none 0 0) (.slice none 0 0) (.slice none 0 0) (.int .i64 0) (.int .i64 1) (.int .i64 len)
            clear e0 e1 e2 e3 e4 e5 e6 e7 e8 fr HN HB
            revert hall hbel
            generalize (((((((((v.setCell ⟨w.heap.size + 1, 0, none⟩ (.int .i64 0)).setCell ⟨w.heap.size + 1, 1, none⟩ (.int .i64 0)).setCell ⟨w.heap.size + 1, 2, none⟩ (.int .i64 0)).setCell ⟨w.heap.size + 1, 3, none⟩ (.slice none 0 0)).setCell ⟨w.heap.size + 1, 4, none⟩ (.slice none 0 0)).setCell ⟨w.heap.size + 1, 5, none⟩ (.slice none 0 0)).setCell ⟨w.heap.size + 1, 6, none⟩ (.int .i64 0)).setCell ⟨w.heap.size + 1, 7, none⟩ (.int .i64 1)).setCell ⟨w.heap.size + 1, 8, none⟩ (.int .i64 len)) = W'
            intro hall hbel
            have k0 := hall.c0
            have k1 := hall.c1
            have k2 := hall.c2
            have k3 := hall.c3
            have k4 := hall.c4
            have k5 := hall.c5
            have k6 := hall.c6
            have k7 := hall.c7
            have k8 := hall.c8
            refine bodyPost_ret (v := .tuple #[fv 1 len, .int .i64 0]) (by simp [results, Tryd.results32, go_sem, k0, k1, k2, k3, k4, k5, k6, k7, k8]) rfl (FuP.bad hbel HD1.out (by decide))
          · have hsh' : ¬ (len : Int) < (i : Int) + 1 + 2 * k + 2 := by omega
            have hxr := HX0.out.below HBW2.out
            have HTW := Lib.hid (rtwo_any b o len cap (i + 1 + 2 * k) xs wr hxr (by omega))
            have hzb := Im.num_bd HB8.out (i + 1 + 2 * k) 2
            obtain ⟨z, hz⟩ : ∃ z, Im.num xs (i + 1 + 2 * k) 2 = z := ⟨_, rfl⟩
            rw [hz] at hzb HTW
            have HZ := Lib.hid (show Im.num xs (Im.cAt xs) 2 = z by rw [HCA.out]; exact hz)
            have hcast : (((i + 1 + 2 * k : Nat) : Int)) = (i : Int) + 1 + 2 * k := by omega
            rw [hcast] at HTW
            clear hxr hz hcast
            go_wp2_with fail
            refine HTW.out.mono ?_
            rintro e v ⟨rfl, hb⟩
            have HNB3 := Lib.hid (HNB2.out.keep hb)
            have HNG3 := Lib.hid (HNG2.out.keep hb)
            have HBW3 := Lib.hid (HBW2.out.trans (hb.mono HBW2.out.size))
            have HOW3 := Lib.hid (own_below HOWN.out hb)
            clear hb q6 q4 qf HNB2 HNG2 HBW2 HOWN HTW
            have q6 := HNG3.out.c6
            have q4 := HNG3.out.c4
            have qf := HNG3.out.fr
            by_cases hg : 256 < z
            · have HD1 := Lib.hid (show Im.dE xs = (3, (i : Int) + 1 + 2 * k) by
                rw [HDT.out]; unfold Im.t11
                rw [Im.nm_bad (by rw [HCA.out, HLEN.out]; omega) (by rw [HZ.out]; omega), HCA.out]
                congr 1)
              clear HNB HBW
              have HNB := HNB3
              have HBW := HBW3
              clear HNB3 HBW3
              go_wp2_with fail
              refine (rfault_any _ _ _).mono ?_
              rintro e v ⟨rfl, hb⟩
              have HN := Lib.hid (HNB.out.keep hb)
              have HB := Lib.hid (HBW.out.trans (hb.mono HBW.out.size))
              have e0 := HN.out.c0
              have e1 := HN.out.c1
              have e2 := HN.out.c2
              have e3 := HN.out.c3
              have e4 := HN.out.c4
              have e5 := HN.out.c5
              have e6 := HN.out.c6
              have e7 := HN.out.c7
              have e8 := HN.out.c8
              have fr := HN.out.fr
              clear hb
              go_wp2
              have hall := NB.all HN.out (.int .i64 0) (.int .i64 0) (.int .i64 0) (.slice none 0 0) (.slice none 0 0) (.slice none 0 0) (.int .i64 0) (.int .i64 3) (.int .i64 ((i : Int) + 1 + 2 * k))
              have hbel := set9_below HB.out (Nat.le_succ w.heap.size) (.int .i64 0) (.int .i64 0) (.int .i64 0) (.slice none 0 0) (.slice none 0 0) (.slice none 0 0) (.int .i64 0) (.int .i64 3) (.int .i64 ((i : Int) + 1 + 2 * k))
              clear e0 e1 e2 e3 e4 e5 e6 e7 e8 fr HN HB
              revert hall hbel
              generalize (((((((((v.setCell ⟨w.heap.size + 1, 0, none⟩ (.int .i64 0)).setCell ⟨w.heap.size + 1, 1, none⟩ (.int .i64 0)).setCell ⟨w.heap.size + 1, 2, none⟩ (.int .i64 0)).setCell ⟨w.heap.size + 1, 3, none⟩ (.slice none 0 0)).setCell ⟨w.heap.size + 1, 4, none⟩ (.slice none 0 0)).setCell ⟨w.heap.size + 1, 5, none⟩ (.slice none 0 0)).setCell ⟨w.heap.size + 1, 6, none⟩ (.int .i64 0)).setCell ⟨w.heap.size + 1, 7, none⟩ (.int .i64 3)).setCell ⟨w.heap.size + 1, 8, none⟩ (.int .i64 ((i : Int) + 1 + 2 * k))) = W'
              intro hall hbel
              have k0 := hall.c0
              have k1 := hall.c1
              have k2 := hall.c2
              have k3 := hall.c3
              have k4 := hall.c4
              have k5 := hall.c5
              have k6 := hall.c6
              have k7 := hall.c7
              have k8 := hall.c8
              refine bodyPost_ret (v := .tuple #[fv 3 ((i : Int) + 1 + 2 * k), .int .i64 0]) (by simp [results, Tryd.results32, go_sem, k0, k1, k2, k3, k4, k5, k6, k7, k8]) rfl (FuP.bad hbel HD1.out (by decide))
            · by_cases hzl : z ≤ l
              · have HD1 := Lib.hid (show Im.dE xs = (3, (i : Int) + 1 + 2 * k) by
                  rw [HDT.out]; unfold Im.t11
                  rw [Im.nm_bad (by rw [HCA.out, HLEN.out]; omega) (by rw [HZ.out, HLL.out]; omega), HCA.out]
                  congr 1)
                clear HNB HBW
                have HNB := HNB3
                have HBW := HBW3
                clear HNB3 HBW3
                go_wp2_with fail
                refine (rfault_any _ _ _).mono ?_
                rintro e v ⟨rfl, hb⟩
                have HN := Lib.hid (HNB.out.keep hb)
                have HB := Lib.hid (HBW.out.trans (hb.mono HBW.out.size))
                have e0 := HN.out.c0
                have e1 := HN.out.c1
                have e2 := HN.out.c2
                have e3 := HN.out.c3
                have e4 := HN.out.c4
                have e5 := HN.out.c5
                have e6 := HN.out.c6
                have e7 := HN.out.c7
                have e8 := HN.out.c8
                have fr := HN.out.fr
                clear hb
                go_wp2
                have hall := NB.all HN.out (.int .i64 0) (.int .i64 0) (.int .i64 0) (.slice none 0 0) (.slice none 0 0) (.slice none 0 0) (.int .i64 0) (.int .i64 3) (.int .i64 ((i : Int) + 1 + 2 * k))
                have hbel := set9_below HB.out (Nat.le_succ w.heap.size) (.int .i64 0) (.int .i64 0) (.int .i64 0) (.slice none 0 0) (.slice none 0 0) (.slice none 0 0) (.int .i64 0) (.int .i64 3) (.int .i64 ((i : Int) + 1 + 2 * k))
                clear e0 e1 e2 e3 e4 e5 e6 e7 e8 fr HN HB
                revert hall hbel
                generalize (((((((((v.setCell ⟨w.heap.size + 1, 0, none⟩ (.int .i64 0)).setCell ⟨w.heap.size + 1, 1, none⟩ (.int .i64 0)).setCell ⟨w.heap.size + 1, 2, none⟩ (.int .i64 0)).setCell ⟨w.heap.size + 1, 3, none⟩ (.slice none 0 0)).setCell ⟨w.heap.size + 1, 4, none⟩ (.slice none 0 0)).setCell ⟨w.heap.size + 1, 5, none⟩ (.slice none 0 0)).setCell ⟨w.heap.size + 1, 6, none⟩ (.int .i64 0)).setCell ⟨w.heap.size + 1, 7, none⟩ (.int .i64 3)).setCell ⟨w.heap.size + 1, 8, none⟩ (.int .i64 ((i : Int) + 1 + 2 * k))) = W'
                intro hall hbel
                have k0 := hall.c0
                have k1 := hall.c1
                have k2 := hall.c2
                have k3 := hall.c3
                have k4 := hall.c4
                have k5 := hall.c5
                have k6 := hall.c6
                have k7 := hall.c7
                have k8 := hall.c8
                refine bodyPost_ret (v := .tuple #[fv 3 ((i : Int) + 1 + 2 * k), .int .i64 0]) (by simp [results, Tryd.results32, go_sem, k0, k1, k2, k3, k4, k5, k6, k7, k8]) rfl (FuP.bad hbel HD1.out (by decide))
              · have HDD := Lib.hid (show Im.dE xs = Im.t12 xs by
                  rw [HDT.out]; unfold Im.t11
                  rw [Im.nm_ok (by rw [HCA.out, HLEN.out]; omega) (by rw [HZ.out, HLL.out]; omega) (by rw [HZ.out]; omega)])
                obtain ⟨m, rfl⟩ : ∃ m : Nat, z = m := ⟨z.toNat, by omega⟩
                have HNK := Lib.hid (show Im.nk xs = m by unfold Im.nk; rw [HZ.out]; rfl)
                have HSA := Lib.hid (show Im.sAt xs = i + 1 + 2 * k + 2 by unfold Im.sAt; rw [HCA.out])
                have q0 := HNG3.out.c0
                have q1 := HNG3.out.c1
                have q2 := HNG3.out.c2
                have q3 := HNG3.out.c3
                have q5 := HNG3.out.c5
                have q7 := HNG3.out.c7
                have q8 := HNG3.out.c8
                have r0 := HNB3.out.c0
                have r1 := HNB3.out.c1
                have r2 := HNB3.out.c2
                have r3 := HNB3.out.c3
                have r4 := HNB3.out.c4
                have r5 := HNB3.out.c5
                have r6 := HNB3.out.c6
                have r7 := HNB3.out.c7
                have r8 := HNB3.out.c8
                have rf := HNB3.out.fr
                go_wp2
                have hall := NB.all (HNB3.out.other (p := ⟨w.heap.size, 6, none⟩) (by simp) (.int .i64 ((i : Int) + 1 + 2 * k + 2))) (.int .i64 y5) (.int .i64 y6) (.int .i64 y7) (.slice Ad ld cd) (.slice A k c) (.slice none 0 0) (.int .i64 ((i : Int) + 1 + 2 * k + 2)) (.int .i64 0) (.int .i64 0)
                have hbel := set9_below (HBW3.out.setCell (p := ⟨w.heap.size, 6, none⟩) (Nat.le_refl _) (.int .i64 ((i : Int) + 1 + 2 * k + 2))) (Nat.le_succ w.heap.size) (.int .i64 y5) (.int .i64 y6) (.int .i64 y7) (.slice Ad ld cd) (.slice A k c) (.slice none 0 0) (.int .i64 ((i : Int) + 1 + 2 * k + 2)) (.int .i64 0) (.int .i64 0)
                have hin := InSl.of_own (own_set (own_set (own_set (own_set (own_set (own_set (own_set (own_set (own_set (own_set HOW3.out (p := ⟨w.heap.size, 6, none⟩) (by simp) (.int .i64 ((i : Int) + 1 + 2 * k + 2))) (p := ⟨w.heap.size + 1, 0, none⟩) (by simp) (.int .i64 y5)) (p := ⟨w.heap.size + 1, 1, none⟩) (by simp) (.int .i64 y6)) (p := ⟨w.heap.size + 1, 2, none⟩) (by simp) (.int .i64 y7)) (p := ⟨w.heap.size + 1, 3, none⟩) (by simp) (.slice Ad ld cd)) (p := ⟨w.heap.size + 1, 4, none⟩) (by simp) (.slice A k c)) (p := ⟨w.heap.size + 1, 5, none⟩) (by simp) (.slice none 0 0)) (p := ⟨w.heap.size + 1, 6, none⟩) (by simp) (.int .i64 ((i : Int) + 1 + 2 * k + 2))) (p := ⟨w.heap.size + 1, 7, none⟩) (by simp) (.int .i64 0)) (p := ⟨w.heap.size + 1, 8, none⟩) (by simp) (.int .i64 0))
                clear q0 q1 q2 q3 q4 q5 q6 q7 q8 qf r0 r1 r2 r3 r4 r5 r6 r7 r8 rf
                revert hall hbel hin
                generalize ((((((((((v.setCell ⟨w.heap.size, 6, none⟩ (.int .i64 ((i : Int) + 1 + 2 * k + 2))).setCell ⟨w.heap.size + 1, 0, none⟩ (.int .i64 y5)).setCell ⟨w.heap.size + 1, 1, none⟩ (.int .i64 y6)).setCell ⟨w.heap.size + 1, 2, none⟩ (.int .i64 y7)).setCell ⟨w.heap.size + 1, 3, none⟩ (.slice Ad ld cd)).setCell ⟨w.heap.size + 1, 4, none⟩ (.slice A k c)).setCell ⟨w.heap.size + 1, 5, none⟩ (.slice none 0 0)).setCell ⟨w.heap.size + 1, 6, none⟩ (.int .i64 ((i : Int) + 1 + 2 * k + 2))).setCell ⟨w.heap.size + 1, 7, none⟩ (.int .i64 0)).setCell ⟨w.heap.size + 1, 8, none⟩ (.int .i64 0)) = W'
                intro hall hbel hin
                have k0 := hall.c0
                have k1 := hall.c1
                have k2 := hall.c2
                have k3 := hall.c3
                have k4 := hall.c4
                have k5 := hall.c5
                have k6 := hall.c6
                have k7 := hall.c7
                have k8 := hall.c8
                have hl0 : 0 ≤ l := by
                  have h1 := HL.out
                  unfold Im.lst at h1
                  rw [if_neg (by omega)] at h1
                  have h2 := (Im.num_bd HB8.out (i + 1 + 2 * (k - 1)) 2).1
                  unfold Im.fa at h1
                  omega
                refine bodyPost_ret (v := .tuple #[.agg #[.int .i64 y5, .int .i64 y6, .int .i64 y7, .slice Ad ld cd, .slice A k c, .slice none 0 0, .int .i64 ((i : Int) + 1 + 2 * k + 2), .int .i64 0, .int .i64 0], .int .i64 m]) (by simp [results, Tryd.results32, go_sem, k0, k1, k2, k3, k4, k5, k6, k7, k8]) rfl ⟨hbel, .inr ⟨HDD.out, by rw [HSA.out, HLEN.out]; omega, by rw [HNF'.out]; exact n1, by rw [HNF'.out]; exact n2, by rw [HNK.out]; omega, by rw [HNK.out]; omega, ?_, A, k, c, ?_, ?_, fun b o s e => Nat.le_of_lt (Nat.lt_of_succ_lt (own_far (base := w.heap.size + 1) HOW3.out b o s e))⟩⟩
                · unfold Im.fns
                  rw [HNF'.out, HFA.out, HNK.out]
                  exact Im.fns_places n1 (by rw [HLEN.out]; omega) HALL.out (by rw [HL.out]; omega)
                · rw [HSA.out, HNK.out, show ((i + 1 + 2 * k + 2 : Nat) : Int) = (i : Int) + 1 + 2 * k + 2 by omega]
                · unfold Im.fns
                  rw [HNF'.out, HFA.out]
                  exact hin
    · have HD1 := Lib.hid (show Im.dE xs = (3, (i : Int)) by rw [HD.out, Im.t10_bad (by rw [HLEN.out, HI.out]; exact hil') (by rw [HNF.out]; omega), HI.out])
      by_cases hn1 : n < 1
      · have n1' : (n : Int) < 1 := by omega
        go_enter Tryd.func32, Tryd.ntmps32
        go_wp2_with fail
        refine (rfault_any _ _ _).mono ?_
        rintro e v ⟨rfl, hb⟩
        have HN := Lib.hid (HNB.out.keep hb)
        have HB := Lib.hid (HBW.out.trans (hb.mono HBW.out.size))
        have e0 := HN.out.c0
        have e1 := HN.out.c1
        have e2 := HN.out.c2
        have e3 := HN.out.c3
        have e4 := HN.out.c4
        have e5 := HN.out.c5
        have e6 := HN.out.c6
        have e7 := HN.out.c7
        have e8 := HN.out.c8
        have fr := HN.out.fr
        clear hb
        go_wp2
        have hall := NB.all HN.out (.int .i64 0) (.int .i64 0) (.int .i64 0) (.slice none 0 0) (.slice none 0 0) (.slice none 0 0) (.int .i64 0) (.int .i64 3) (.int .i64 i)
        have hbel := set9_below HB.out (Nat.le_succ w.heap.size) (.int .i64 0) (.int .i64 0) (.int .i64 0) (.slice none 0 0) (.slice none 0 0) (.slice none 0 0) (.int .i64 0) (.int .i64 3) (.int .i64 i)
        clear e0 e1 e2 e3 e4 e5 e6 e7 e8 fr HN HB
        revert hall hbel
        generalize (((((((((v.setCell ⟨w.heap.size + 1, 0, none⟩ (.int .i64 0)).setCell ⟨w.heap.size + 1, 1, none⟩ (.int .i64 0)).setCell ⟨w.heap.size + 1, 2, none⟩ (.int .i64 0)).setCell ⟨w.heap.size + 1, 3, none⟩ (.slice none 0 0)).setCell ⟨w.heap.size + 1, 4, none⟩ (.slice none 0 0)).setCell ⟨w.heap.size + 1, 5, none⟩ (.slice none 0 0)).setCell ⟨w.heap.size + 1, 6, none⟩ (.int .i64 0)).setCell ⟨w.heap.size + 1, 7, none⟩ (.int .i64 3)).setCell ⟨w.heap.size + 1, 8, none⟩ (.int .i64 i)) = W'
        intro hall hbel
        have k0 := hall.c0
        have k1 := hall.c1
        have k2 := hall.c2
        have k3 := hall.c3
        have k4 := hall.c4
        have k5 := hall.c5
        have k6 := hall.c6
        have k7 := hall.c7
        have k8 := hall.c8
        refine bodyPost_ret (v := .tuple #[fv 3 i, .int .i64 0]) (by simp [results, Tryd.results32, go_sem, k0, k1, k2, k3, k4, k5, k6, k7, k8]) rfl (FuP.bad hbel HD1.out (by decide))
      · have n1' : ¬ (n : Int) < 1 := by omega
        have n2' : 16 < (n : Int) := by omega
        go_enter Tryd.func32, Tryd.ntmps32
        go_wp2_with fail
        refine (rfault_any _ _ _).mono ?_
        rintro e v ⟨rfl, hb⟩
        have HN := Lib.hid (HNB.out.keep hb)
        have HB := Lib.hid (HBW.out.trans (hb.mono HBW.out.size))
        have e0 := HN.out.c0
        have e1 := HN.out.c1
        have e2 := HN.out.c2
        have e3 := HN.out.c3
        have e4 := HN.out.c4
        have e5 := HN.out.c5
        have e6 := HN.out.c6
        have e7 := HN.out.c7
        have e8 := HN.out.c8
        have fr := HN.out.fr
        clear hb
        go_wp2
        have hall := NB.all HN.out (.int .i64 0) (.int .i64 0) (.int .i64 0) (.slice none 0 0) (.slice none 0 0) (.slice none 0 0) (.int .i64 0) (.int .i64 3) (.int .i64 i)
        have hbel := set9_below HB.out (Nat.le_succ w.heap.size) (.int .i64 0) (.int .i64 0) (.int .i64 0) (.slice none 0 0) (.slice none 0 0) (.slice none 0 0) (.int .i64 0) (.int .i64 3) (.int .i64 i)
        clear e0 e1 e2 e3 e4 e5 e6 e7 e8 fr HN HB
        revert hall hbel
        generalize (((((((((v.setCell ⟨w.heap.size + 1, 0, none⟩ (.int .i64 0)).setCell ⟨w.heap.size + 1, 1, none⟩ (.int .i64 0)).setCell ⟨w.heap.size + 1, 2, none⟩ (.int .i64 0)).setCell ⟨w.heap.size + 1, 3, none⟩ (.slice none 0 0)).setCell ⟨w.heap.size + 1, 4, none⟩ (.slice none 0 0)).setCell ⟨w.heap.size + 1, 5, none⟩ (.slice none 0 0)).setCell ⟨w.heap.size + 1, 6, none⟩ (.int .i64 0)).setCell ⟨w.heap.size + 1, 7, none⟩ (.int .i64 3)).setCell ⟨w.heap.size + 1, 8, none⟩ (.int .i64 i)) = W'
        intro hall hbel
        have k0 := hall.c0
        have k1 := hall.c1
        have k2 := hall.c2
        have k3 := hall.c3
        have k4 := hall.c4
        have k5 := hall.c5
        have k6 := hall.c6
        have k7 := hall.c7
        have k8 := hall.c8
        refine bodyPost_ret (v := .tuple #[fv 3 i, .int .i64 0]) (by simp [results, Tryd.results32, go_sem, k0, k1, k2, k3, k4, k5, k6, k7, k8]) rfl (FuP.bad hbel HD1.out (by decide))
end Go.Proofs.YtjadiijjahjjoaaDoor
