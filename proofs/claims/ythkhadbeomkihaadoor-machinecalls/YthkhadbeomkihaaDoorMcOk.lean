/-
  What states keep along steps of a right image, in plain words.
-/
import Derived.Test.YthkhadbeomkihaaDoorMc11
import Derived.Test.YthkhadbeomkihaaDoorWdPlain2
namespace Go.Proofs.YthkhadbeomkihaaDoor
set_option maxRecDepth 100000
theorem Mc.app_nn (op a x y : Int) : 0 ≤ Wd.app op a x y := by
  have h := Wd.cut_lo a
  have hm := Wd.cut_hi_le a x
  have hd : ∀ o, 0 ≤ Wd.dvd o a (Wd.cut a x) (Wd.cut a y) := fun o => by
    unfold Wd.dvd
    have := Wd.msk_lo a
    split <;> split
    · exact h x
    · exact Int.emod_nonneg _ (by omega)
    · omega
    · exact Int.ediv_nonneg (h x) (h y)
  have he : ∀ p q, 0 ≤ Wd.eqv p q := fun p q => by unfold Wd.eqv; split <;> omega
  have hl : ∀ p q, 0 ≤ Wd.ltv p q := fun p q => by unfold Wd.ltv; split <;> omega
  have ite : ∀ {c : Prop} [Decidable c] {p q : Int}, 0 ≤ p → 0 ≤ q → 0 ≤ (if c then p else q) := fun h1 h2 => by split <;> assumption
  unfold Wd.app
  refine ite ?_ (ite ?_ (ite ?_ (ite ?_ (ite ?_ (ite ?_ (ite ?_ (ite ?_ (ite ?_ (ite ?_ (ite ?_ (ite ?_ (ite ?_ (ite ?_ (ite ?_ ?_))))))))))))))
  · omega
  · exact h _
  · exact h _
  · exact h _
  · exact hd _
  · exact hd _
  · exact Int.natCast_nonneg _
  · exact Int.natCast_nonneg _
  · exact Int.natCast_nonneg _
  · exact h _
  · exact Int.ediv_nonneg (h _) (Int.le_of_lt (Wd.pw_pos _))
  · exact h _
  · exact he _ _
  · exact hl _ _
  · exact hl _ _
  · exact Int.le_refl 0
theorem Mc.app_hi (op a x y : Int) : Wd.app op a x y < 18446744073709551616 := by
  have := Wd.app_le op a x y; have := Wd.msk_hi a; omega
namespace Mc
theorem Ok.one {p : Im.Pic} {s : St} (hR : R p) (h : Ok p s) : Ok1 p s := ⟨h.p0, h.p1, h.rl, h.rr, h.mb, by have := h.ol; have := hR.cnt.2.1; omega⟩
/-- Every number of the code is a word. -/
def Wc (p : Im.Pic) : Prop := ∀ i, 0 ≤ (p.cs.getD i Im.z5).m ∧ (p.cs.getD i Im.z5).m < 18446744073709551616
theorem Ok.wr {p : Im.Pic} {s : St} {i : Im.I5} {x nx : Int} (h : Ok p s) (x0 : 0 ≤ x) (x1 : x < 18446744073709551616) (n0 : 0 ≤ nx) (n1 : nx < p.cs.length) : Ok p { wr s i x with pl := nx } :=
  ⟨n0, n1, by show (s.rg.set _ _).length = 8; rw [List.length_set]; exact h.rl, fun y hy => by
    rcases set_mem hy with hy | rfl
    · exact h.rr y hy
    · exact ⟨x0, x1⟩, h.mb, h.ml, h.ol, h.oo⟩
theorem Ok.pl {p : Im.Pic} {s : St} {nx : Int} (h : Ok p s) (n0 : 0 ≤ nx) (n1 : nx < p.cs.length) : Ok p { s with pl := nx } := ⟨n0, n1, h.rl, h.rr, h.mb, h.ml, h.ol, h.oo⟩
theorem le_lt (l : List Int) (h : ∀ x ∈ l, 0 ≤ x ∧ x ≤ 255) (hl : l.length ≤ 8) : 0 ≤ le l ∧ le l < 18446744073709551616 := by
  obtain ⟨h1, h2⟩ := le_rng l h
  refine ⟨h1, ?_⟩
  have h3' : 256 ^ l.length ≤ 256 ^ 8 := Nat.pow_le_pow_right (by decide) hl
  have h3 : (256 : Int) ^ l.length ≤ 256 ^ 8 := by exact_mod_cast h3'
  have h4 : (256 : Int) ^ 8 = 18446744073709551616 := by decide
  omega
theorem isB_at {l : List Int} (h : Cd.isB l) (k : Nat) : 0 ≤ l.getD k 0 ∧ l.getD k 0 < 18446744073709551616 := by have := h k; omega
/-- Where an instruction of a right image goes on, it may. -/
theorem goes_in {p : Im.Pic} (h : R p) {k : Nat} (hk : k < p.cs.length) (hg : Cd.goes (p.cs.getD k Im.z5).op = true) : (k : Int) + 1 < p.cs.length := by
  have hC := h.cnt
  have hP := hC.2.2.2.2.2.2
  obtain ⟨h1, h2, h3⟩ := Im.own_spec hP hC.2.2.2.2.1.1 (p := (k : Int)) (by omega) (by omega)
  have hok := h.ok k hk
  unfold Im.okB at hok
  simp only [Bool.and_eq_true, hg, Bool.true_and, Bool.not_eq_true', decide_eq_false_iff_not] at hok
  have ht := hP.till_le h1
  have := hok.2
  omega
theorem fun_in {p : Im.Pic} (h : R p) {k : Nat} (hk : k < p.fs.length) : 0 ≤ p.fs.getD k 0 ∧ p.fs.getD k 0 < p.cs.length := by
  have hP := h.cnt.2.2.2.2.2.2
  exact ⟨hP.nonneg hk, Int.lt_of_lt_of_le (hP.lt_till hk) (hP.till_le hk)⟩

def Kp (p : Im.Pic) (r : St × Int × Int) : Prop := r.2.2 = 0 → Ok p { r.1 with pl := r.2.1 }
theorem kp_ite {p : Im.Pic} {c : Prop} [Decidable c] {x y : St × Int × Int} (h : c → Kp p x) (k : ¬ c → Kp p y) : Kp p (if c then x else y) := by
  split
  · rename_i e; exact h e
  · rename_i e; exact k e
theorem kp_end {p : Im.Pic} {s : St} {nx e : Int} (h : e ≠ 0) : Kp p (s, nx, e) := fun h0 => absurd h0 h
theorem act_ok {p : Im.Pic} {xs : List Int} {s : St} {k : Nat} (hR : R p) (hW : Wc p) (hx : Cd.isB xs) (hl : xs.length < 1000) (h : Ok p s) (hkl : k < p.cs.length) : Kp p (act p xs (p.cs.getD k Im.z5) s (k + 1)) := by
  have hbad := hR.bad k hkl
  have hld := right_leads hR hkl
  have hgo := goes_in hR hkl
  have hw := hW k
  have hrv := rv_rng h.rr
  have hfi := fun q => fun_in (p := p) (k := q) hR
  generalize p.cs.getD k Im.z5 = i at *
  obtain ⟨o0, o1, a0, a1, b0, b1, c0, c1⟩ := Cd.bad_none (show Cd.bad i.op i.a i.b i.c i.m = -1 from hbad)
  have hnx : i.op ≠ 0 → i.op ≠ 21 → i.op ≠ 24 → i.op ≠ 25 → 0 ≤ (k : Int) + 1 ∧ (k : Int) + 1 < p.cs.length := fun h1 h2 h3 h4 => ⟨by omega, hgo (by
    simp [Cd.goes, Cd.exi, h1, h2, h3, h4]; omega)⟩
  have st : ∀ (x : Int), 0 ≤ x → x < 18446744073709551616 → i.op ≠ 0 → i.op ≠ 21 → i.op ≠ 24 → i.op ≠ 25 → Kp p (wr s i x, (k : Int) + 1, 0) := fun x x0 x1 h1 h2 h3 h4 _ => h.wr x0 x1 (hnx h1 h2 h3 h4).1 (hnx h1 h2 h3 h4).2
  unfold act
  refine kp_ite (fun e => kp_end (by decide)) (fun e0 => ?_)
  refine kp_ite (fun e => st _ hw.1 hw.2 (by omega) (by omega) (by omega) (by omega)) (fun e1 => ?_)
  refine kp_ite (fun e => st _ (hrv _).1 (hrv _).2 (by omega) (by omega) (by omega) (by omega)) (fun e2 => ?_)
  refine kp_ite (fun e => kp_ite (fun ht => ?_) (fun _ => kp_end (by decide))) (fun e17 => ?_)
  · have := le_lt ((s.mm.drop (ad s i).toNat).take i.c.toNat) (fun x hx => isB_mem h.mb (List.mem_of_mem_drop (List.mem_of_mem_take hx))) (by rw [List.length_take]; omega)
    exact st _ this.1 this.2 (by omega) (by omega) (by omega) (by omega)
  refine kp_ite (fun e => kp_ite (fun ht _ => ?_) (fun _ => kp_end (by decide))) (fun e18 => ?_)
  · have hn := hnx (by omega) (by omega) (by omega) (by omega)
    have ht := of_decide_eq_true ht
    have hml := h.ml
    have had : 0 ≤ ad s i := Int.emod_nonneg _ (by decide)
    exact ⟨hn.1, hn.2, h.rl, h.rr, sav_isB h.mb, by show ((sav _ _ _ _).length : Int) = _; rw [sav_len (by omega)]; exact h.ml, h.ol, h.oo⟩
  refine kp_ite (fun e => kp_ite (fun ht => ?_) (fun _ => kp_end (by decide))) (fun e19 => ?_)
  · have := isB_at hx (ad s i).toNat
    exact st _ this.1 this.2 (by omega) (by omega) (by omega) (by omega)
  refine kp_ite (fun e => st _ (by omega) (by omega) (by omega) (by omega) (by omega) (by omega)) (fun e20 => ?_)
  refine kp_ite (fun e _ => h.pl hw.1 (hld.1 (.inl e))) (fun e21 => ?_)
  refine kp_ite (fun e => kp_ite (fun _ _ => ?_) (fun _ _ => h.pl hw.1 (hld.1 (.inr e)))) (fun e22 => ?_)
  · have hn := hnx (by omega) (by omega) (by omega) (by omega)
    exact h.pl hn.1 hn.2
  refine kp_ite (fun e => kp_ite (fun ht _ => ?_) (fun _ => kp_end (by decide))) (fun e23 => ?_)
  · have hn := hnx (by omega) (by omega) (by omega) (by omega)
    have hm := hld.2 e
    have hf := hfi i.m.toNat (by omega)
    exact ⟨hf.1, hf.2, h.rl, h.rr, h.mb, h.ml, by show ((s.op ++ [_]).length : Int) ≤ _; simp; omega, fun x hx => by
      rcases List.mem_append.1 hx with hx | hx
      · exact h.oo x hx
      · rw [List.mem_singleton.1 hx]; exact hn⟩
  refine kp_ite (fun e => kp_ite (fun _ => kp_end (by decide)) (fun hne _ => ?_)) (fun e24 => ?_)
  · have hz : s.op.getLastD 0 ∈ s.op := by
      rw [List.getLastD_eq_getLast?, List.getLast?_eq_some_getLast hne]
      exact List.getLast_mem hne
    have hz := h.oo _ hz
    exact ⟨hz.1, hz.2, h.rl, h.rr, h.mb, h.ml, by show ((s.op.dropLast).length : Int) ≤ _; have := h.ol; simp; omega, fun x hx => h.oo x (List.dropLast_subset _ hx)⟩
  refine kp_ite (fun e => kp_end (by decide)) (fun e25 => ?_)
  refine kp_ite (fun e => kp_end (by decide)) (fun _ => ?_)
  exact st _ (app_nn _ _ _ _) (app_hi _ _ _ _) (by omega) (by omega) (by omega) (by omega)
theorem Ok.step {p : Im.Pic} {xs : List Int} {s : St} (hR : R p) (hW : Wc p) (hx : Cd.isB xs) (hl : xs.length < 1000) (h : Ok p s) : Ok p (step p xs s).1 := by
  obtain ⟨k, hk⟩ := Int.eq_ofNat_of_zero_le h.p0
  have hkl : k < p.cs.length := by have := h.p1; omega
  have hi : ins p s = p.cs.getD k Im.z5 := by unfold ins; rw [hk]; simp
  unfold Mc.step
  rw [hi, hk]
  split
  · rename_i h0
    exact act_ok hR hW hx hl h hkl h0
  · exact h
theorem mem0_ok {p : Im.Pic} (hR : R p) (hd : Cd.isB p.ds) : Ok p (start p) := by
  obtain ⟨m1, m2, m3, m4, m5, m6, m7⟩ := hR.cnt
  refine ⟨Int.le_refl _, by show (0 : Int) < _; omega, by simp [start], fun x hx => ?_, isB_of fun x hx => ?_, ?_, ?_, fun x hx => ?_⟩
  · rw [List.eq_of_mem_replicate (show x ∈ List.replicate 8 0 from hx)]; decide
  · rcases List.mem_append.1 (show x ∈ p.ds ++ List.replicate _ 0 from hx) with hx | hx
    · exact isB_mem hd hx
    · rw [List.eq_of_mem_replicate hx]; decide
  · show (((p.ds ++ List.replicate _ 0).length : Nat) : Int) = p.mem
    simp; omega
  · show ((([] : List Int).length : Nat) : Int) ≤ p.stk
    simp; omega
  · exact absurd (show x ∈ ([] : List Int) from hx) (by simp)
end Mc
end Go.Proofs.YthkhadbeomkihaaDoor
