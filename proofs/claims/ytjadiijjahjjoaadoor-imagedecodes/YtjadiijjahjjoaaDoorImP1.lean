/-
  What bytes tell, more: where faults lie; bytes that are cut, or have one more.
-/
import Derived.Test.YtjadiijjahjjoaaDoorImL0
namespace Go.Proofs.YtjadiijjahjjoaaDoor
namespace Im

/-- No fault, or one that lies within the bytes, or at their end. -/
def Good (n : Nat) (r : Int × Int) : Prop := r = (0, 0) ∨ ((r.1 = 1 ∨ r.1 = 2 ∨ r.1 = 3 ∨ r.1 = 4 ∨ r.1 = 5 ∨ r.1 = 6 ∨ r.1 = 7) ∧ 0 ≤ r.2 ∧ r.2 ≤ n ∧ (r.2 < n ∨ r.1 = 1))
theorem Good.short (n : Nat) : Good n (1, (n : Int)) := .inr ⟨.inl rfl, by omega, by simp, .inr rfl⟩
theorem nm_good {xs : List Int} {i k : Nat} {lo hi : Int} {c : Int × Int} (hk : 0 < k) (h : i + k ≤ xs.length → lo ≤ num xs i k → num xs i k ≤ hi → Good xs.length c) : Good xs.length (nm xs i k lo hi c) := by
  unfold nm
  split
  · exact Good.short _
  · split
    · rename_i h1 h2
      exact h (by omega) h2.1 h2.2
    · exact .inr ⟨by simp, by simp, by simp; omega, .inl (by simp; omega)⟩
theorem pl_bd (i : I5) : 0 ≤ Cd.pl (bad5 i) ∧ Cd.pl (bad5 i) ≤ 4 := by
  unfold bad5
  rcases Cd.bad_cases i.op i.a i.b i.c i.m with h | h | h | h | h | h <;> rw [h] <;> decide
theorem er_45 {k : Int} (h : k ≠ -1) : Cd.er k = 4 ∨ Cd.er k = 5 := by
  unfold Cd.er
  split
  · exact .inl rfl
  · right
    first | rfl | rw [if_neg h]
theorem dF_good {xs : List Int} {a f : Nat} {c : Int × Int} (h : (∀ j, j < f → fBad xs a j = false) → Good xs.length c) : Good xs.length (dF xs a f c) := by
  rcases first_cases f (fBad xs a) with ⟨k, hk, hb, hn, _⟩ | ⟨hn, _⟩
  · rw [dF_at hk hb hn]
    split
    · exact Good.short _
    · exact .inr ⟨by simp, by simp; omega, by simp; omega, .inl (by simp; omega)⟩
  · rw [dF_ok hn]
    exact h hn
theorem dI_good {xs : List Int} {s k : Nat} {c : Int × Int} (h : (∀ j, j < k → iBad xs s j = false) → Good xs.length c) : Good xs.length (dI xs s k c) := by
  rcases first_cases k (iBad xs s) with ⟨q, hq, hb, hn, _⟩ | ⟨hn, _⟩
  · rw [dI_at hq hb hn]
    split
    · exact Good.short _
    · rename_i h1
      rw [iBad_in (by omega)] at hb
      have he := er_45 (of_decide_eq_true hb)
      have hp := pl_bd (insAt xs s q)
      refine .inr ⟨by rcases he with e | e <;> simp [e], by simp; omega, by simp; omega, .inl (by simp; omega)⟩
  · rw [dI_ok hn]
    exact h hn
theorem pic_len (xs : List Int) : (pic xs).cs.length = nk xs := by simp [pic]
theorem iBad_len {xs : List Int} {s k : Nat} (h : ∀ j, j < k → iBad xs s j = false) (hk : 0 < k) : s + 12 * k ≤ xs.length := by
  have := h (k - 1) (by omega)
  rcases Nat.lt_or_ge xs.length (s + 12 * (k - 1) + 12) with h1 | h1
  · rw [iBad_short h1] at this
    cases this
  · omega
theorem dG_good {xs : List Int} (h : ∀ j, j < nk xs → iBad xs (sAt xs) j = false) : Good xs.length (dG xs) := by
  unfold dG
  split
  · exact .inr ⟨by simp, by simp; omega, by simp; omega, .inl (by simp; omega)⟩
  · split
    · rename_i h1 hf
      have hf' : stray (pic xs).fs (pic xs).cs < (pic xs).cs.length := of_decide_eq_true hf
      have hl : flI (pic xs).fs (pic xs).cs = stray (pic xs).fs (pic xs).cs := by unfold flI; rw [if_pos hf']
      rw [pic_len] at hf'
      have := iBad_len h (by omega)
      rw [hl]
      exact .inr ⟨by simp, by simp; omega, by simp; omega, .inl (by simp; omega)⟩
    · exact .inl rfl
theorem dE_good (xs : List Int) : Good xs.length (dE xs) := by
  unfold dE dA
  split
  · exact Good.short _
  split
  · split
    · exact Good.short _
    split
    · exact nm_good (by omega) fun _ _ _ => nm_good (by omega) fun _ _ _ => nm_good (by omega) fun _ _ _ => nm_good (by omega) fun _ _ _ => by
        unfold t9
        split
        · exact Good.short _
        · exact nm_good (by omega) fun _ _ _ => dF_good fun _ => nm_good (by omega) fun _ _ _ => dI_good fun h => dG_good h
    · exact .inr ⟨by simp, by simp, by simp; omega, .inl (by simp; omega)⟩
  · exact .inr ⟨by simp, by simp, by simp, .inl (by simp; omega)⟩

/-- What is so of bytes that tell an image. -/
structure Ok (xs : List Int) : Prop where
  l : 9 ≤ xs.length
  le : xs.take 4 = letters
  one : xs.getD 4 0 = 1
  m : 0 ≤ num xs 5 1 ∧ num xs 5 1 ≤ 64
  s : 0 ≤ num xs 6 1 ∧ num xs 6 1 ≤ 16
  i : 0 ≤ num xs 7 1 ∧ num xs 7 1 ≤ 16
  d : 0 ≤ num xs 8 1 ∧ num xs 8 1 ≤ num xs 5 1
  f : 1 ≤ num xs (9 + nd xs) 1 ∧ num xs (9 + nd xs) 1 ≤ 16
  fb : ∀ j, j < nf xs → fBad xs (fAt xs) j = false
  c : fa xs (fAt xs) (nf xs - 1) + 1 ≤ num xs (cAt xs) 2 ∧ num xs (cAt xs) 2 ≤ 256
  ib : ∀ j, j < nk xs → iBad xs (sAt xs) j = false
  len : xs.length = sAt xs + 12 * nk xs
  fl : flB (pic xs).fs (pic xs).cs = false
theorem nm_zero {xs : List Int} {i k : Nat} {lo hi : Int} {c : Int × Int} (h : nm xs i k lo hi c = (0, 0)) : i + k ≤ xs.length ∧ (lo ≤ num xs i k ∧ num xs i k ≤ hi) ∧ c = (0, 0) := by
  unfold nm at h
  split at h
  · simp at h
  · split at h
    · exact ⟨by omega, by assumption, h⟩
    · simp at h
theorem Ok.of {xs : List Int} (hB : Cd.isB xs) (h : dE xs = (0, 0)) : Ok xs := by
  unfold dE dA at h
  split at h
  · simp at h
  split at h
  · split at h
    · simp at h
    split at h
    · rename_i h1 h2 h3 h4
      obtain ⟨a1, a2, h⟩ := nm_zero h
      obtain ⟨b1, b2, h⟩ := nm_zero h
      obtain ⟨c1, c2, h⟩ := nm_zero h
      obtain ⟨d1, d2, h⟩ := nm_zero h
      unfold t9 at h
      split at h
      · simp at h
      obtain ⟨e1, e2, h⟩ := nm_zero h
      rcases first_cases (nf xs) (fBad xs (9 + nd xs + 1)) with ⟨k, hk, hb, hn, _⟩ | ⟨hn, _⟩
      · rw [dF_at hk hb hn] at h
        split at h <;> simp at h
      · rw [dF_ok hn] at h
        obtain ⟨f1, f2, h⟩ := nm_zero h
        rcases first_cases (nk xs) (iBad xs (sAt xs)) with ⟨q, hq, hb, hn', _⟩ | ⟨hn', _⟩
        · unfold t12 at h
          rw [dI_at hq hb hn'] at h
          split at h
          · simp at h
          · rename_i h9
            rw [iBad_in (by omega)] at hb
            have := er_ne (of_decide_eq_true hb)
            simp at h
            exact absurd h.1 this
        · unfold t12 at h
          rw [dI_ok hn'] at h
          unfold dG at h
          split at h
          · simp at h
          split at h
          · simp at h
          · rename_i h8 h9
            have hk : 0 < nk xs := by
              have hf0 := (num_bd hB (fAt xs + 2 * (nf xs - 1)) 2).1
              have hf1 : fa xs (fAt xs) (nf xs - 1) = num xs (fAt xs + 2 * (nf xs - 1)) 2 := rfl
              unfold nk
              omega
            have := iBad_len hn' hk
            exact ⟨by omega, h2, h4, a2, b2, c2, d2, e2, hn, f2, hn', by omega, by simpa using h9⟩
    · simp at h
  · simp at h
theorem Ok.dE {xs : List Int} (h : Ok xs) (hB : Cd.isB xs) : dE xs = (0, 0) := by
  have hl := h.len
  have hc : cAt xs + 2 = sAt xs := rfl
  have hf : fAt xs + 2 * nf xs = cAt xs := rfl
  have hd : 9 + nd xs + 1 = fAt xs := rfl
  have h9 := h.l
  have e9 : t9 xs = t10 xs := by unfold t9; rw [if_neg (by omega)]
  have eG : dG xs = (0, 0) := by unfold dG; rw [if_neg (by omega), h.fl]; rfl
  have e12 : t12 xs = (0, 0) := (dI_ok h.ib _).trans eG
  have e11 : t11 xs = (0, 0) := (nm_ok (by omega) h.c.1 h.c.2 _).trans e12
  have e10 : t10 xs = (0, 0) := (nm_ok (by omega) h.f.1 h.f.2 _).trans ((dF_ok h.fb _).trans e11)
  have e8 : t8 xs = (0, 0) := (nm_ok (by omega) h.d.1 h.d.2 _).trans (e9.trans e10)
  have e7 : t7 xs = (0, 0) := (nm_ok (by omega) h.i.1 h.i.2 _).trans e8
  have e6 : t6 xs = (0, 0) := (nm_ok (by omega) h.s.1 h.s.2 _).trans e7
  have e5 : t5 xs = (0, 0) := (nm_ok (by omega) h.m.1 h.m.2 _).trans e6
  unfold Im.dE dA
  rw [if_neg (by omega), if_pos h.le, if_neg (by omega), if_pos h.one]
  exact e5

/-! ### Bytes that agree as far as they go -/
def Agree (ys xs : List Int) : Prop := ∀ i, i < ys.length → i < xs.length → ys.getD i 0 = xs.getD i 0
theorem num_ag {ys xs : List Int} (h : Agree ys xs) {i k : Nat} (hk : k = 1 ∨ k = 2) (h1 : i + k ≤ ys.length) (h2 : i + k ≤ xs.length) : num ys i k = num xs i k := by
  unfold num
  rcases hk with rfl | rfl
  · rw [if_pos rfl, if_pos rfl, h i (by omega) (by omega)]
  · rw [if_neg (by decide), if_neg (by decide), h i (by omega) (by omega), h (i + 1) (by omega) (by omega)]
theorem ins_ag {ys xs : List Int} (h : Agree ys xs) {i : Nat} (h1 : i + 12 ≤ ys.length) (h2 : i + 12 ≤ xs.length) : ins (ys.drop i) = ins (xs.drop i) := by
  have e : ∀ j, j < 12 → (ys.drop i).getD j 0 = (xs.drop i).getD j 0 := fun j hj => by
    rw [List.getD_eq_getElem?_getD, List.getD_eq_getElem?_getD, List.getElem?_drop, List.getElem?_drop, ← List.getD_eq_getElem?_getD, ← List.getD_eq_getElem?_getD]
    exact h (i + j) (by omega) (by omega)
  unfold ins Cd.val
  rw [e 0 (by omega), e 1 (by omega), e 2 (by omega), e 3 (by omega), e 4 (by omega), e 5 (by omega), e 6 (by omega), e 7 (by omega), e 8 (by omega), e 9 (by omega), e 10 (by omega), e 11 (by omega)]
theorem fBad_ag {ys xs : List Int} (h : Agree ys xs) {a q : Nat} (h1 : a + 2 * q + 2 ≤ ys.length) (h2 : a + 2 * q + 2 ≤ xs.length) : fBad ys a q = fBad xs a q := by
  match q with
  | 0 =>
    rw [fBad_zero (by omega), fBad_zero (by omega)]
    unfold fa
    rw [num_ag h (.inr rfl) (by omega) (by omega)]
  | q + 1 =>
    rw [fBad_succ (by omega), fBad_succ (by omega)]
    unfold fa
    rw [num_ag h (.inr rfl) (by omega) (by omega), num_ag h (.inr rfl) (by omega) (by omega)]
theorem iBad_ag {ys xs : List Int} (h : Agree ys xs) {a q : Nat} (h1 : a + 12 * q + 12 ≤ ys.length) (h2 : a + 12 * q + 12 ≤ xs.length) : iBad ys a q = iBad xs a q := by
  rw [iBad_in (by omega), iBad_in (by omega)]
  unfold insAt
  rw [ins_ag h (by omega) (by omega)]
theorem nm_ag {ys xs : List Int} (h : Agree ys xs) {i k : Nat} {lo hi : Int} (hk : k = 1 ∨ k = 2) (h2 : i + k ≤ xs.length) (h3 : lo ≤ num xs i k) (h4 : num xs i k ≤ hi) {c : Int × Int} {r : Int × Int} (hr : ys.length < i + k → r = (1, (ys.length : Int))) (hc : i + k ≤ ys.length → c = r) : nm ys i k lo hi c = r := by
  rcases Nat.lt_or_ge ys.length (i + k) with h1 | h1
  · rw [nm_short h1, hr h1]
  · have e := num_ag h hk h1 h2
    rw [nm_ok h1 (by rw [e]; exact h3) (by rw [e]; exact h4)]
    exact hc h1
/-- What is told of bytes that agree with those of an image: they end short, or there are more. -/
theorem dE_ag {ys xs : List Int} (h : Agree ys xs) (ho : Ok xs) (hn : ys.length ≠ xs.length) : dE ys = if ys.length < xs.length then (1, (ys.length : Int)) else (6, (xs.length : Int)) := by
  have hl := ho.len
  have hc : cAt xs + 2 = sAt xs := rfl
  have hf : fAt xs + 2 * nf xs = cAt xs := rfl
  have hd : 9 + nd xs + 1 = fAt xs := rfl
  have h9 := ho.l
  obtain ⟨r, hr⟩ : ∃ r : Int × Int, (if ys.length < xs.length then ((1 : Int), (ys.length : Int)) else (6, (xs.length : Int))) = r := ⟨_, rfl⟩
  rw [hr]
  have hs : ys.length < xs.length → r = (1, (ys.length : Int)) := fun h1 => by rw [← hr, if_pos h1]
  unfold dE dA
  rcases Nat.lt_or_ge ys.length 4 with h4 | h4
  · rw [if_pos h4, hs (by omega)]
  rw [if_neg (by omega)]
  have ht : ys.take 4 = xs.take 4 := by
    apply List.ext_getElem?
    intro j
    rcases Nat.lt_or_ge j 4 with hj | hj
    · rw [List.getElem?_take_of_lt hj, List.getElem?_take_of_lt hj, List.getElem?_eq_getElem (by omega), List.getElem?_eq_getElem (by omega)]
      have := h j (by omega) (by omega)
      rw [List.getD_eq_getElem?_getD, List.getD_eq_getElem?_getD, List.getElem?_eq_getElem (by omega), List.getElem?_eq_getElem (by omega)] at this
      exact congrArg some this
    · rw [List.getElem?_eq_none (by rw [List.length_take]; omega), List.getElem?_eq_none (by rw [List.length_take]; omega)]
  rw [if_pos (ht.trans ho.le)]
  rcases Nat.lt_or_ge ys.length 5 with h5 | h5
  · rw [if_pos h5, hs (by omega)]
  rw [if_neg (by omega), if_pos ((h 4 (by omega) (by omega)).trans ho.one)]
  refine nm_ag h (.inl rfl) (by omega) ho.m.1 ho.m.2 (fun _ => hs (by omega)) fun g5 => ?_
  refine nm_ag h (.inl rfl) (by omega) ho.s.1 ho.s.2 (fun _ => hs (by omega)) fun g6 => ?_
  refine nm_ag h (.inl rfl) (by omega) ho.i.1 ho.i.2 (fun _ => hs (by omega)) fun g7 => ?_
  unfold t8
  rw [num_ag h (.inl rfl) g5 (by omega)]
  refine nm_ag h (.inl rfl) (by omega) ho.d.1 ho.d.2 (fun _ => hs (by omega)) fun g8 => ?_
  have hnd : nd ys = nd xs := by unfold nd; rw [num_ag h (.inl rfl) g8 (by omega)]
  unfold t9
  rw [hnd]
  rcases Nat.lt_or_ge ys.length (9 + nd xs) with h6 | h6
  · rw [if_pos h6, hs (by omega)]
  rw [if_neg (by omega)]
  unfold t10
  rw [hnd]
  refine nm_ag h (.inl rfl) (by omega) ho.f.1 ho.f.2 (fun _ => hs (by omega)) fun g9 => ?_
  have hnf : nf ys = nf xs := by unfold nf; rw [hnd, num_ag h (.inl rfl) g9 (by omega)]
  have hfA : fAt ys = fAt xs := by unfold fAt; rw [hnd]
  have hcA : cAt ys = cAt xs := by unfold cAt; rw [hfA, hnf]
  have hsA : sAt ys = sAt xs := by unfold sAt; rw [hcA]
  rw [hnf]
  show dF ys (fAt xs) (nf xs) (t11 ys) = r
  have hnf1 : 1 ≤ nf xs := by have := ho.f.1; unfold nf; omega
  rcases Nat.lt_or_ge ys.length (cAt xs) with h7 | h7
  · have hq : (ys.length - fAt xs) / 2 < nf xs := by omega
    rw [dF_at hq (fBad_short (by omega)) (fun j hj => by rw [fBad_ag h (by omega) (by omega)]; exact ho.fb j (by omega)), if_pos (by omega), hs (by omega)]
  rw [dF_ok (fun j hj => by rw [fBad_ag h (by omega) (by omega)]; exact ho.fb j hj)]
  unfold t11
  rw [hcA, hfA, hnf]
  have hfa : fa ys (fAt xs) (nf xs - 1) = fa xs (fAt xs) (nf xs - 1) := num_ag h (.inr rfl) (by omega) (by omega)
  rw [hfa]
  refine nm_ag h (.inr rfl) (by omega) ho.c.1 ho.c.2 (fun _ => hs (by omega)) fun gc => ?_
  have hnk : nk ys = nk xs := by unfold nk; rw [hcA, num_ag h (.inr rfl) gc (by omega)]
  unfold t12
  rw [hsA, hnk]
  rcases Nat.lt_or_ge ys.length xs.length with h8 | h8
  · have hq : (ys.length - sAt xs) / 12 < nk xs := by omega
    rw [dI_at hq (iBad_short (by omega)) (fun j hj => by rw [iBad_ag h (by omega) (by omega)]; exact ho.ib j (by omega)), if_pos (by omega), hs h8]
  · rw [dI_ok (fun j hj => by rw [iBad_ag h (by omega) (by omega)]; exact ho.ib j hj)]
    unfold dG
    rw [hsA, hnk, if_pos (by omega), ← hr, if_neg (by omega), hl]
theorem agree_take (xs : List Int) (n : Nat) : Agree (xs.take n) xs := fun i h1 _ => by
  rw [List.length_take] at h1
  rw [List.getD_eq_getElem?_getD, List.getD_eq_getElem?_getD, List.getElem?_take_of_lt (by omega)]
theorem agree_app (xs ys : List Int) : Agree (xs ++ ys) xs := fun i _ h2 => by
  rw [List.getD_eq_getElem?_getD, List.getD_eq_getElem?_getD, List.getElem?_append_left h2]
end Im
end Go.Proofs.YtjadiijjahjjoaaDoor
