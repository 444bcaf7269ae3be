/-
  There and back: what is encoded is decoded as it was, and what is decoded is encoded as it was.
-/
import Derived.Test.YtjadiijjahjjoaaDoorImP1
namespace Go.Proofs.YtjadiijjahjjoaaDoor
namespace Im

theorem getD_right {l r : List Int} {i : Nat} : (l ++ r).getD (l.length + i) 0 = r.getD i 0 := by
  rw [List.getD_eq_getElem?_getD, List.getD_eq_getElem?_getD, List.getElem?_append_right (by omega)]
  congr 2
  omega
theorem num_right {l r : List Int} {i k : Nat} : num (l ++ r) (l.length + i) k = num r i k := by
  unfold num
  rw [Nat.add_assoc, getD_right, getD_right]
theorem two_at : ∀ (fs R : List Int) (q : Nat), q < fs.length → num (fs.flatMap two ++ R) (2 * q) 2 = fs.getD q 0
  | [], _, _, h => absurd h (by simp)
  | x :: r, R, 0, _ => by
    show x / 256 * 256 + x % 256 = x
    omega
  | x :: r, R, q + 1, h => by
    have := two_at r R q (by simpa using h)
    rw [List.flatMap_cons, List.append_assoc, show 2 * (q + 1) = (two x).length + 2 * q by simp [two]; omega, num_right, List.getD_cons_succ]
    exact this
theorem bts_drop : ∀ (cs : List I5) (j : Nat), j < cs.length → ∃ R, (cs.flatMap bts5).drop (12 * j) = bts5 (cs.getD j z5) ++ R
  | [], _, h => absurd h (by simp)
  | i :: r, 0, _ => ⟨r.flatMap bts5, rfl⟩
  | i :: r, j + 1, h => by
    obtain ⟨R, hR⟩ := bts_drop r j (by simpa using h)
    refine ⟨R, ?_⟩
    rw [List.flatMap_cons, List.getD_cons_succ, ← hR, show 12 * (j + 1) = (bts5 i).length + 12 * j by simp [bts5, Cd.bts]; omega]
    rw [List.drop_append, List.drop_eq_nil_of_le (by omega), List.nil_append]
    congr 1
    omega
theorem bts_len (cs : List I5) : (cs.flatMap bts5).length = 12 * cs.length := by
  induction cs with
  | nil => rfl
  | cons a r ih => rw [List.flatMap_cons, List.length_append, ih]; simp [bts5, Cd.bts]; omega
theorem ins_bts {i : I5} (m0 : 0 ≤ i.m) (m1 : i.m < 18446744073709551616) (R : List Int) : ins (bts5 i ++ R) = i := by
  obtain ⟨op, a, b, c, m⟩ := i
  have e : Cd.val (bts5 ⟨op, a, b, c, m⟩ ++ R) = m := by
    simp only at m0 m1
    simp [Cd.val, bts5, Cd.bts]
    omega
  unfold ins
  rw [e]
  rfl
theorem head_len (p : Pic) : (head p).length = 10 + p.ds.length + 2 * p.fs.length + 2 := by
  rw [head_front, List.length_append, List.length_append, front_len, two_len]
  rfl
section
variable {p : Pic}
theorem enc_nd : nd (enc p) = p.ds.length := by
  have : num (enc p) 8 1 = (p.ds.length : Int) := rfl
  unfold nd
  rw [this, Int.toNat_natCast]
theorem enc_f : num (enc p) (9 + p.ds.length) 1 = (p.fs.length : Int) := by
  have e : enc p = ([82, 66, 54, 52, 1, p.mem, p.stk, p.inp, (p.ds.length : Int)] ++ p.ds) ++ ([(p.fs.length : Int)] ++ p.fs.flatMap two ++ two p.cs.length ++ p.cs.flatMap bts5) := by
    unfold enc head
    simp only [List.append_assoc]
  rw [e, show 9 + p.ds.length = ([82, 66, 54, 52, 1, p.mem, p.stk, p.inp, (p.ds.length : Int)] ++ p.ds).length + 0 by simp; omega, num_right]
  rfl
theorem enc_nf : nf (enc p) = p.fs.length := by
  unfold nf
  rw [enc_nd, enc_f, Int.toNat_natCast]
theorem enc_fAt : fAt (enc p) = (front p).length := by
  unfold fAt
  rw [enc_nd, front_len]
  omega
theorem enc_fa {q : Nat} (h : q < p.fs.length) : fa (enc p) (fAt (enc p)) q = p.fs.getD q 0 := by
  unfold fa
  have e : enc p = front p ++ (p.fs.flatMap two ++ (two p.cs.length ++ p.cs.flatMap bts5)) := by
    unfold enc
    rw [head_front]
    simp only [List.append_assoc]
  rw [enc_fAt]
  rw [e, num_right]
  exact two_at _ _ _ h
theorem enc_c : num (enc p) (cAt (enc p)) 2 = (p.cs.length : Int) := by
  have e : enc p = (front p ++ p.fs.flatMap two) ++ (two p.cs.length ++ p.cs.flatMap bts5) := by
    unfold enc
    rw [head_front]
    simp only [List.append_assoc]
  have h : cAt (enc p) = (front p ++ p.fs.flatMap two).length + 0 := by
    unfold cAt
    rw [enc_fAt, enc_nf, List.length_append, two_len]
    omega
  rw [h, e, num_right]
  show (p.cs.length : Int) / 256 * 256 + (p.cs.length : Int) % 256 = _
  omega
theorem enc_nk : nk (enc p) = p.cs.length := by
  unfold nk
  rw [enc_c, Int.toNat_natCast]
theorem enc_sAt : sAt (enc p) = (head p).length := by
  unfold sAt cAt
  rw [enc_fAt, enc_nf, front_len, head_len]
theorem enc_ins {j : Nat} (h : j < p.cs.length) (m0 : 0 ≤ (p.cs.getD j z5).m) (m1 : (p.cs.getD j z5).m < 18446744073709551616) : insAt (enc p) (sAt (enc p)) j = p.cs.getD j z5 := by
  unfold insAt
  obtain ⟨R, hR⟩ := bts_drop p.cs j h
  rw [enc_sAt]
  unfold enc
  rw [List.drop_append, List.drop_eq_nil_of_le (by omega), List.nil_append, show (head p).length + 12 * j - (head p).length = 12 * j by omega, hR]
  exact ins_bts m0 m1 R
theorem enc_len : (enc p).length = sAt (enc p) + 12 * nk (enc p) := by
  rw [enc_sAt, enc_nk]
  unfold enc
  rw [List.length_append, bts_len]
theorem range_getD {α : Type} {l : List α} {z : α} {f : Nat → α} (h : ∀ i, i < l.length → f i = l.getD i z) : (List.range l.length).map f = l := by
  apply List.ext_getElem?
  intro i
  rw [List.getElem?_map]
  rcases Nat.lt_or_ge i l.length with hi | hi
  · rw [List.getElem?_range hi, Option.map_some, h i hi, List.getD_eq_getElem?_getD, List.getElem?_eq_getElem hi]
    rfl
  · rw [List.getElem?_eq_none (by simpa using hi), List.getElem?_eq_none hi]
    rfl
theorem pic_enc (hm : ∀ i, 0 ≤ (p.cs.getD i z5).m ∧ (p.cs.getD i z5).m < 18446744073709551616) : pic (enc p) = p := by
  obtain ⟨mem, stk, inp, ds, fs, cs⟩ := p
  unfold pic
  rw [enc_nd, enc_nf, enc_nk]
  congr 1
  · show (ds ++ [(fs.length : Int)] ++ fs.flatMap two ++ two cs.length ++ cs.flatMap bts5).take ds.length = ds
    simp only [List.append_assoc]
    exact List.take_left
  · exact range_getD (z := 0) fun q hq => enc_fa (p := ⟨mem, stk, inp, ds, fs, cs⟩) hq
  · exact range_getD (z := z5) fun j hj => enc_ins (p := ⟨mem, stk, inp, ds, fs, cs⟩) hj (hm j).1 (hm j).2
theorem chk_zero (h : chk p = 0) : Cnt p ∧ (∀ j, j < p.cs.length → bad5 (p.cs.getD j z5) = -1) ∧ flB p.fs p.cs = false := by
  unfold chk at h
  split at h
  · rename_i hC
    split at h
    · rename_i h0
      split at h
      · simp at h
      · rename_i hs
        exact ⟨hC, firstE_zero _ h0, decide_eq_false hs⟩
    · rename_i h0
      exact absurd h h0
  · simp at h
theorem ok_enc (h : chk p = 0) (hm : ∀ i, 0 ≤ (p.cs.getD i z5).m ∧ (p.cs.getD i z5).m < 18446744073709551616) : Ok (enc p) := by
  obtain ⟨⟨m1, m2, m3, m4, m5, m6, m7⟩, hb, hf⟩ := chk_zero h
  have hl := enc_len (p := p)
  have hs := enc_sAt (p := p)
  rw [head_len] at hs
  have hfl := enc_fAt (p := p)
  rw [front_len] at hfl
  refine ⟨by omega, rfl, rfl, m1, m2, m3, ⟨?_, ?_⟩, ?_, fun j hj => ?_, ?_, fun j hj => ?_, hl, ?_⟩
  · show 0 ≤ (p.ds.length : Int)
    omega
  · show (p.ds.length : Int) ≤ p.mem
    exact m4
  · rw [enc_nd, enc_f]
    omega
  · rw [enc_nf] at hj
    match j, hj with
    | 0, hj =>
      rw [fBad_zero (by omega), enc_fa hj, m7.1]
      rfl
    | j + 1, hj =>
      rw [fBad_succ (by omega), enc_fa hj, enc_fa (by omega)]
      have := m7.2.1 j (by omega)
      exact decide_eq_false (by omega)
  · rw [enc_c, enc_nf, enc_fa (by omega)]
    have := m7.2.2
    omega
  · rw [enc_nk] at hj hl
    rw [iBad_in (by omega), enc_ins hj (hm j).1 (hm j).2]
    exact decide_eq_false (fun hn => hn (hb j hj))
  · rw [pic_enc hm]
    exact hf
end

/-! ### What is decoded is encoded as it was -/
theorem two_num {xs : List Int} (hB : Cd.isB xs) (i : Nat) (h : i + 2 ≤ xs.length) : two (num xs i 2) = (xs.drop i).take 2 := by
  have h0 := hB i
  have h1 := hB (i + 1)
  rw [List.drop_eq_getElem_cons (by omega), List.drop_eq_getElem_cons (by omega)]
  have e0 : xs.getD i 0 = xs[i] := by rw [List.getD_eq_getElem?_getD, List.getElem?_eq_getElem (by omega)]; rfl
  have e1 : xs.getD (i + 1) 0 = xs[i + 1] := by rw [List.getD_eq_getElem?_getD, List.getElem?_eq_getElem (by omega)]; rfl
  rw [e0] at h0
  rw [e1] at h1
  unfold two num
  rw [if_neg (by decide), e0, e1]
  simp only [List.take_succ_cons, List.take_zero, List.cons.injEq, and_true]
  omega
theorem chunk {xs : List Int} {a k : Nat} {α : Type} {f : Nat → α} {g : α → List Int} (h : ∀ q, a + k * q + k ≤ xs.length → g (f q) = (xs.drop (a + k * q)).take k) :
    ∀ n, a + k * n ≤ xs.length → ((List.range n).map f).flatMap g = (xs.drop a).take (k * n)
  | 0, _ => by simp
  | n + 1, hn => by
    have hm : k * (n + 1) = k * n + k := Nat.mul_succ k n
    rw [List.range_succ, List.map_append, List.flatMap_append, chunk h n (by omega), hm]
    simp only [List.map_cons, List.map_nil, List.flatMap_cons, List.flatMap_nil, List.append_nil]
    rw [h n (by omega), List.take_add, List.drop_drop]
theorem bts_ins {ys : List Int} (h : 12 ≤ ys.length) (hB : Cd.isB ys) : bts5 (ins ys) = ys.take 12 := bts_val ys h hB
theorem isB_drop {xs : List Int} (h : Cd.isB xs) (i : Nat) : Cd.isB (xs.drop i) := isB_of fun x hx => mem_isB h (List.mem_of_mem_drop hx)
theorem enc_pic {xs : List Int} (ho : Ok xs) (hB : Cd.isB xs) : enc (pic xs) = xs := by
  have hl := ho.len
  have hc : cAt xs + 2 = sAt xs := rfl
  have hf : fAt xs + 2 * nf xs = cAt xs := rfl
  have hd : 9 + nd xs + 1 = fAt xs := rfl
  have h9 := ho.l
  have hnd : num xs 8 1 = (nd xs : Int) := by have := ho.d.1; unfold nd; omega
  have hnf : num xs (9 + nd xs) 1 = (nf xs : Int) := by have := ho.f.1; unfold nf; omega
  have hnk : num xs (cAt xs) 2 = (nk xs : Int) := by
    have := (num_bd hB (cAt xs) 2).1
    unfold nk
    omega
  have e1 : [82, 66, 54, 52, 1, num xs 5 1, num xs 6 1, num xs 7 1, (nd xs : Int)] = xs.take 9 := by
    rw [← hnd]
    have hle := ho.le
    have h1 := ho.one
    match xs, h9 with
    | x0 :: x1 :: x2 :: x3 :: x4 :: x5 :: x6 :: x7 :: x8 :: r, _ =>
      simp only [letters, List.take_succ_cons, List.take_zero, List.cons.injEq, and_true] at hle
      obtain ⟨rfl, rfl, rfl, rfl⟩ := hle
      simp only [List.getD_cons_zero, List.getD_cons_succ] at h1
      subst h1
      rfl
  have e2 : ((xs.drop 9).take (nd xs)).length = nd xs := len_cut (by omega)
  have e3 : [(nf xs : Int)] = (xs.drop (9 + nd xs)).take 1 := by
    rw [← hnf, num1, List.drop_eq_getElem_cons (by omega), List.getD_eq_getElem?_getD, List.getElem?_eq_getElem (by omega)]
    rfl
  have e4 : ((List.range (nf xs)).map (fa xs (fAt xs))).flatMap two = (xs.drop (fAt xs)).take (2 * nf xs) :=
    chunk (fun q hq => two_num hB _ hq) _ (by omega)
  have e5 : two (nk xs : Int) = (xs.drop (cAt xs)).take 2 := by rw [← hnk]; exact two_num hB _ (by omega)
  have e6 : ((List.range (nk xs)).map (insAt xs (sAt xs))).flatMap bts5 = (xs.drop (sAt xs)).take (12 * nk xs) :=
    chunk (fun q hq => bts_ins (by rw [List.length_drop]; omega) (isB_drop hB _)) _ (by omega)
  unfold enc head pic
  simp only [List.length_map, List.length_range]
  rw [e2, e1, e3, e4, e5, e6]
  have s1 : xs.take 9 ++ (xs.drop 9).take (nd xs) = xs.take (9 + nd xs) := (List.take_add).symm
  have s2 : xs.take (9 + nd xs) ++ (xs.drop (9 + nd xs)).take 1 = xs.take (fAt xs) := (List.take_add).symm
  have s3 : xs.take (fAt xs) ++ (xs.drop (fAt xs)).take (2 * nf xs) = xs.take (cAt xs) := (List.take_add).symm
  have s4 : xs.take (cAt xs) ++ (xs.drop (cAt xs)).take 2 = xs.take (sAt xs) := (List.take_add).symm
  have s5 : xs.take (sAt xs) ++ (xs.drop (sAt xs)).take (12 * nk xs) = xs.take (sAt xs + 12 * nk xs) := (List.take_add).symm
  rw [s1, s2, s3, s4, s5, ← hl, List.take_length]
theorem chk_pic {xs : List Int} (ho : Ok xs) (hB : Cd.isB xs) : chk (pic xs) = 0 := by
  have hl := ho.len
  have hc : cAt xs + 2 = sAt xs := rfl
  have hf : fAt xs + 2 * nf xs = cAt xs := rfl
  have hd : 9 + nd xs + 1 = fAt xs := rfl
  have hnd : num xs 8 1 = (nd xs : Int) := by have := ho.d.1; unfold nd; omega
  have hnf : num xs (9 + nd xs) 1 = (nf xs : Int) := by have := ho.f.1; unfold nf; omega
  have hf0 := (num_bd hB (fAt xs + 2 * (nf xs - 1)) 2).1
  have hf1 : fa xs (fAt xs) (nf xs - 1) = num xs (fAt xs + 2 * (nf xs - 1)) 2 := rfl
  have hcc := ho.c
  have hnk : num xs (cAt xs) 2 = (nk xs : Int) := by unfold nk; omega
  have hC : Cnt (pic xs) := by
    have hff := ho.f
    refine ⟨ho.m, ho.s, ho.i, ?_, ?_, ?_, ?_⟩
    · show (((xs.drop 9).take (nd xs)).length : Int) ≤ num xs 5 1
      rw [len_cut (by omega), ← hnd]
      exact ho.d.2
    · simp only [pic, List.length_map, List.length_range]
      omega
    · simp only [pic, List.length_map, List.length_range]
      omega
    · rw [pic_len]
      exact places_of ho.fb (by omega) (by omega) (by omega)
  have hE : firstE (pic xs).cs = 0 := firstE_none _ fun j hj => by
    rw [pic_len] at hj
    show bad5 (((List.range (nk xs)).map (insAt xs (sAt xs))).getD j z5) = -1
    rw [getD_range hj]
    have := ho.ib j hj
    rw [iBad_in (by omega)] at this
    exact Decidable.not_not.1 (of_decide_eq_false this)
  rw [chk_fl hC hE, ho.fl]
  rfl
end Im
end Go.Proofs.YtjadiijjahjjoaaDoor
