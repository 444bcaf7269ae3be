/-
  What every action of the runner does.
-/
import Derived.Test.YthkhadbeomkihaaDoorMc9
namespace Go.Proofs.YthkhadbeomkihaaDoor
set_option maxRecDepth 100000
open Go.RowKit

theorem bad_c {op a b c m : Int} (h : Cd.bad op a b c m = -1) (hk : Cd.kc op.toNat = 1) : c ≤ 7 := by
  unfold Cd.bad at h
  rw [hk] at h
  split at h
  · split at h
    · split at h
      · split at h
        · rename_i h3
          simp only [Cd.mp] at h3
          rw [if_pos trivial] at h3
          split at h3
          · omega
          · split at h3 <;> omega
        · cases h
      · cases h
    · cases h
  · cases h
theorem bad_w {op a b c m : Int} (h : Cd.bad op a b c m = -1) (hk : Cd.kc op.toNat = 2) : c ≠ 0 := by
  rintro rfl
  unfold Cd.bad at h
  rw [hk] at h
  have : ¬ Cd.mp 2 0 = 0 := by decide
  rw [if_neg this] at h
  split at h
  · split at h
    · split at h <;> cases h
    · cases h
  · cases h
theorem rv_nat (s : Mc.St) (k : Nat) : Mc.rv s (k : Int) = s.rg.getD k 0 := by simp [Mc.rv]
theorem getD_map' {f : Int → Value} {l : List Int} {k : Nat} (h : k < l.length) : (l.map f)[k]? = some (f (l.getD k 0)) := by
  rw [List.getElem?_map, List.getElem?_eq_getElem h, List.getD_eq_getElem?_getD, List.getElem?_eq_getElem h]; rfl
/-- A row of the call's own, opened. -/
theorem own_open {w : World} {base n : Nat} {e : TypeId} {v : Value} {xs : List Value} (h : w.ownsRow base e 1 v n xs) :
    ∃ A cap, v = .slice A n cap ∧ n ≤ cap ∧ cap ≤ maxLen ∧ (0 < n → ∃ o cur, A = some ⟨o, 0, none⟩ ∧ base ≤ o ∧ w.heap[o]? = some (.cells cur e (0, 0)) ∧ cur.size = cap ∧ cur.toList.take n = xs) := by
  rcases h.2 with ⟨rfl, rfl⟩ | ⟨o, cap, cur, rfl, h1, h2, h3, h4, h5, h6⟩
  · exact ⟨none, 0, rfl, Nat.le_refl _, Nat.zero_le _, fun h0 => absurd h0 (by omega)⟩
  · exact ⟨_, cap, rfl, h3, h4, fun _ => ⟨o, cur, rfl, h1, h2, by simpa using h5, by simpa using h6⟩⟩
theorem take_get {cur : Array Value} {n : Nat} {xs : List Value} (h : cur.toList.take n = xs) {k : Nat} (hk : k < n) : cur[k]? = xs[k]? := by
  rw [← h, List.getElem?_take_of_lt hk, Array.getElem?_toList]

theorem svA_get : ∀ (q : Nat) (cur : Array Value) (k : Nat) (x : Int) (i : Nat), k + q ≤ cur.size → (svA q cur k x)[i]? = if k ≤ i ∧ i < k + q then some (.int .u8 (x / 256 ^ (i - k) % 256)) else cur[i]?
  | 0, cur, k, x, i, _ => by rw [if_neg (by omega)]; rfl
  | q + 1, cur, k, x, i, h => by
    unfold svA
    by_cases hi : k + q = i
    · subst hi
      rw [Array.getElem?_setIfInBounds_self_of_lt (by rw [svA_size]; omega), if_pos (by omega), Nat.add_sub_cancel_left]
    · rw [Array.getElem?_setIfInBounds_ne hi, svA_get q cur k x i (by omega)]
      by_cases h2 : k ≤ i ∧ i < k + q
      · rw [if_pos h2, if_pos (by omega)]
      · rw [if_neg h2, if_neg (by omega)]
theorem bys_get : ∀ (n : Nat) (x : Int) (j : Nat), j < n → (Mc.bys n x)[j]? = some (x / 256 ^ j % 256)
  | 0, _, _, h => absurd h (by omega)
  | n + 1, x, 0, _ => by simp [Mc.bys]
  | n + 1, x, j + 1, h => by
    simp only [Mc.bys, List.getElem?_cons_succ]
    rw [bys_get n (x / 256) j (by omega), Int.pow_succ, Int.mul_comm, Int.ediv_ediv_of_nonneg (by decide)]
theorem sav_get {mm : List Int} {k c : Nat} {x : Int} (h : k + c ≤ mm.length) (i : Nat) : (Mc.sav mm k c x)[i]? = if k ≤ i ∧ i < k + c then some (x / 256 ^ (i - k) % 256) else mm[i]? := by
  unfold Mc.sav
  have h1 : (mm.take k).length = k := by simp; omega
  have h2 : (mm.take k ++ Mc.bys c x).length = k + c := by simp [Mc.bys_len]; omega
  rcases Nat.lt_or_ge i (k + c) with hi | hi
  · rw [List.getElem?_append_left (by omega)]
    rcases Nat.lt_or_ge i k with hk | hk
    · rw [List.getElem?_append_left (by omega), List.getElem?_take_of_lt hk, if_neg (by omega)]
    · rw [List.getElem?_append_right (by omega), h1, bys_get _ _ _ (by omega), if_pos ⟨hk, hi⟩]
  · rw [List.getElem?_append_right (by omega), h2, List.getElem?_drop, if_neg (by omega)]
    congr 1
    omega
theorem sav_take {cur : Array Value} {mm : List Int} {k c : Nat} {x : Int} (h : cur.toList.take mm.length = mm.map (Value.int .u8)) (hkc : k + c ≤ mm.length) : (svA c cur k x).toList.take mm.length = (Mc.sav mm k c x).map (Value.int .u8) := by
  have hsz : mm.length ≤ cur.size := by
    have := congrArg List.length h
    simp at this
    omega
  refine List.ext_getElem? fun i => ?_
  rcases Nat.lt_or_ge i mm.length with hi | hi
  · rw [List.getElem?_take_of_lt hi, Array.getElem?_toList, svA_get _ _ _ _ _ (by omega), List.getElem?_map, sav_get hkc]
    split
    · rfl
    · rw [take_get h hi, List.getElem?_map]
  · rw [List.getElem?_eq_none (by simp; omega), List.getElem?_eq_none (by simp [Mc.sav_len hkc]; omega)]

section
variable {H : Hd} {w0 : World} {g : Nat} {M O : Value} {s : Mc.St} {nx : Int} {w : World}

theorem act_apply (h : Rn H w0 g M O s nx w) (hl : s.rg.length = 8) (n a b c : Nat) (m : Int) (hn : n < 26) (ha : a < 8) (hb : b < 8) (hc : c < 8) :
    Calls Tryd.prog 71 #[.pointer (some ⟨g, 0, none⟩), .agg #[.int .i64 n, .int .i64 a, .int .i64 b, .int .i64 c, .int .u64 m]] w (AP H w0 g M O (Mc.wr s ⟨n, a, b, c, m⟩ (Wd.app ((n : Int) + 5) 64 (Mc.rv s b) (Mc.rv s c)), nx, 0) w) := by
  obtain ⟨cs, h1, h2⟩ := h.row
  refine (apply_any g a b c n m _ _ cs w h1 h2.sz ha hb hc (h2.rg b hb) (h2.rg c hc) (by omega) (by omega)).mono ?_
  rintro e w' ⟨he, hr, hf⟩
  rw [rv_nat, rv_nat]
  exact AP.cells h he hr (h2.reg hl ha _) hf rfl rfl
theorem act_divide (h : Rn H w0 g M O s nx w) (hl : s.rg.length = 8) (n a b c : Nat) (m : Int) (hn : n < 26) (ha : a < 8) (hb : b < 8) (hc : c < 8) :
    Calls Tryd.prog 72 #[.pointer (some ⟨g, 0, none⟩), .agg #[.int .i64 n, .int .i64 a, .int .i64 b, .int .i64 c, .int .u64 m]] w
      (AP H w0 g M O (if Mc.rv s c = 0 then (s, nx, 3) else (Mc.wr s ⟨n, a, b, c, m⟩ (Wd.app ((n : Int) + 5) 64 (Mc.rv s b) (Mc.rv s c)), nx, 0)) w) := by
  obtain ⟨cs, h1, h2⟩ := h.row
  rw [rv_nat, rv_nat]
  split
  · rename_i h0
    have hy := h2.rg c hc
    rw [h0] at hy
    refine (divide_zero g c n a b m cs w h1 hc hy).mono ?_
    rintro e w' ⟨he, hb⟩
    exact AP.still h he hb
  · rename_i h0
    refine (divide_any g a b c n m _ _ cs w h1 h2.sz ha hb hc (h2.rg b hb) (h2.rg c hc) (by omega) (by omega) h0).mono ?_
    rintro e w' ⟨he, hr, hf⟩
    exact AP.cells h he hr (h2.reg hl ha _) hf rfl rfl
theorem act_set (h : Rn H w0 g M O s nx w) (hl : s.rg.length = 8) (a : Nat) (op b c m : Int) (ha : a < 8) :
    Calls Tryd.prog 69 #[.pointer (some ⟨g, 0, none⟩), .agg #[.int .i64 op, .int .i64 a, .int .i64 b, .int .i64 c, .int .u64 m]] w (AP H w0 g M O (Mc.wr s ⟨op, a, b, c, m⟩ m, nx, 0) w) := by
  obtain ⟨cs, h1, h2⟩ := h.row
  refine (set_any g a op b c m cs w h1 h2.sz ha).mono ?_
  rintro e w' ⟨he, hr, hf⟩
  exact AP.cells h he hr (h2.reg hl ha _) hf rfl rfl
theorem act_copy (h : Rn H w0 g M O s nx w) (hl : s.rg.length = 8) (a b : Nat) (op c m : Int) (ha : a < 8) (hb : b < 8) :
    Calls Tryd.prog 70 #[.pointer (some ⟨g, 0, none⟩), .agg #[.int .i64 op, .int .i64 a, .int .i64 b, .int .i64 c, .int .u64 m]] w (AP H w0 g M O (Mc.wr s ⟨op, a, b, c, m⟩ (Mc.rv s b), nx, 0) w) := by
  obtain ⟨cs, h1, h2⟩ := h.row
  rw [rv_nat]
  refine (copy_any g a b op c m _ cs w h1 h2.sz ha hb (h2.rg b hb)).mono ?_
  rintro e w' ⟨he, hr, hf⟩
  exact AP.cells h he hr (h2.reg hl ha _) hf rfl rfl
theorem act_length (HA : HdAt w0 H) (h : Rn H w0 g M O s nx w) (hl : s.rg.length = 8) (a : Nat) (op b c m : Int) (ha : a < 8) :
    Calls Tryd.prog 76 #[.pointer (some ⟨g, 0, none⟩), .agg #[.int .i64 op, .int .i64 a, .int .i64 b, .int .i64 c, .int .u64 m]] w (AP H w0 g M O (Mc.wr s ⟨op, a, b, c, m⟩ H.xs.length, nx, 0) w) := by
  obtain ⟨cs, h1, h2⟩ := h.row
  refine (length_any g a op b c m H.Ai H.li H.ci cs w h1 h2.sz ha h2.c6 (Nat.le_trans HA.inp.hle HA.inp.hcap)).mono ?_
  rintro e w' ⟨he, hr, hf⟩
  rw [HA.inp.hlen]
  exact AP.cells h he hr (h2.reg hl ha _) hf rfl rfl
theorem act_jump (h : Rn H w0 g M O s nx w) (op a b c m : Int) (h0 : 0 ≤ m) (hm : m < 9223372036854775808) :
    Calls Tryd.prog 77 #[.pointer (some ⟨g, 0, none⟩), .agg #[.int .i64 op, .int .i64 a, .int .i64 b, .int .i64 c, .int .u64 m]] w (AP H w0 g M O (s, m, 0) w) := by
  obtain ⟨cs, h1, h2⟩ := h.row
  refine (jump_any g op a b c m cs w h1 h2.sz h0 hm).mono ?_
  rintro e w' ⟨he, hr, hf⟩
  exact AP.cells h he hr (h2.nx _) hf rfl rfl
theorem act_branch (h : Rn H w0 g M O s nx w) (a : Nat) (op b c m : Int) (ha : a < 8) (h0 : 0 ≤ m) (hm : m < 9223372036854775808) :
    Calls Tryd.prog 78 #[.pointer (some ⟨g, 0, none⟩), .agg #[.int .i64 op, .int .i64 a, .int .i64 b, .int .i64 c, .int .u64 m]] w (AP H w0 g M O (if Mc.rv s a = 0 then (s, nx, 0) else (s, m, 0)) w) := by
  obtain ⟨cs, h1, h2⟩ := h.row
  rw [rv_nat]
  split
  · rename_i hz
    refine (branch_on g a op b c m _ cs w h1 ha (h2.rg a ha) hz).mono ?_
    rintro e w' ⟨he, hb⟩
    exact AP.still h he hb
  · rename_i hz
    refine (branch_to g a op b c m _ cs w h1 h2.sz ha (h2.rg a ha) hz h0 hm).mono ?_
    rintro e w' ⟨he, hr, hf⟩
    exact AP.cells h he hr (h2.nx _) hf rfl rfl
theorem act_read (HA : HdAt w0 H) (h : Rn H w0 g M O s nx w) (hl : s.rg.length = 8) (a b : Nat) (op c m : Int) (ha : a < 8) (hb : b < 8) :
    Calls Tryd.prog 75 #[.pointer (some ⟨g, 0, none⟩), .agg #[.int .i64 op, .int .i64 a, .int .i64 b, .int .i64 c, .int .u64 m]] w
      (AP H w0 g M O (if Mc.ad s ⟨op, a, b, c, m⟩ < H.xs.length then (Mc.wr s ⟨op, a, b, c, m⟩ (H.xs.getD (Mc.ad s ⟨op, a, b, c, m⟩).toNat 0), nx, 0) else (s, nx, 5)) w) := by
  obtain ⟨cs, h1, h2⟩ := h.row
  have hi := HA.inp.below h.bel
  have hlm := Nat.le_trans hi.hle hi.hcap
  have hx := h2.rg b hb
  have ead : Mc.ad s ⟨op, a, b, c, m⟩ = (s.rg.getD b 0 + m) % 18446744073709551616 := by simp only [Mc.ad, rv_nat]
  rw [ead, hi.hlen]
  split
  · rename_i hlt
    obtain ⟨k, hk⟩ := Int.eq_ofNat_of_zero_le (show 0 ≤ (s.rg.getD b 0 + m) % 18446744073709551616 by omega)
    rw [hk] at hlt ⊢
    have hkl : k < H.li := by omega
    obtain ⟨ib, io, hA, hib, hc⟩ := hi.mem (by omega)
    have h6 := h2.c6
    rw [hA] at h6
    have hbb := hi.isB k
    have hcz : w.cell? ⟨ib, io + k, none⟩ = some (.int .u8 (H.xs.getD k 0)) := by have := hc k (by rw [hi.hlen]; exact hkl); rwa [add_at] at this
    refine (read_in g a b op c m _ _ cs w ib io H.li H.ci h1 h2.sz ha hb hx h6 hlm k hk hkl hib hcz hbb.1 hbb.2).mono ?_
    rintro e w' ⟨he, hr, hf⟩
    exact AP.cells h he hr (h2.reg hl ha _) hf rfl rfl
  · rename_i hlt
    refine (read_out g b op a c m _ cs w H.Ai H.li H.ci h1 hb hx h2.c6 hlm hlt).mono ?_
    rintro e w' ⟨he, hb⟩
    exact AP.still h he hb
theorem act_back (h : Rn H w0 g M O s nx w) (op a b c m : Int) :
    Calls Tryd.prog 80 #[.pointer (some ⟨g, 0, none⟩), .agg #[.int .i64 op, .int .i64 a, .int .i64 b, .int .i64 c, .int .u64 m]] w (AP H w0 g M O (if s.op = [] then (s, nx, 1) else ({ s with op := s.op.dropLast }, s.op.getLastD 0, 0)) w) := by
  obtain ⟨cs, h1, h2⟩ := h.row
  obtain ⟨A, cap, hO, hcp, hmx, hx⟩ := own_open h.oo
  have h17 := h2.c17
  split
  · rename_i hz
    rw [hO, hz] at h17
    refine (back_empty g op a b c m A cap cs w h1 h17).mono ?_
    rintro e w' ⟨he, hb⟩
    exact AP.still h he hb
  · rename_i hz
    obtain ⟨l, z, hlz⟩ : ∃ l z, s.op = l ++ [z] := ⟨_, _, (List.dropLast_concat_getLast hz).symm⟩
    have hn : s.op.length = l.length + 1 := by rw [hlz]; simp
    obtain ⟨o, cur, rfl, hob, hblk, hcs, htk⟩ := hx (by omega)
    have hoo := h.oo
    rw [hO] at h17
    rw [hn] at h17 hcp htk
    rw [hn, hO, hlz] at hoo
    have hol : o < w.heap.size := (Array.getElem?_eq_some_iff.1 hblk).1
    have hog : o ≠ g := fun e => h.og (by rw [hO, e]; rfl)
    have hcz : w.cell? ⟨o, l.length, none⟩ = some (.int .i64 z) := by
      rw [row_cell hblk, take_get htk (by omega), hlz]
      simp
    refine (back_to g o l.length cap op a b c m z cs w h1 h2.sz h17 hcp hmx hol hcz hog).mono ?_
    rintro e w' ⟨he, hr, hf⟩
    have ed : s.op.dropLast = l := by rw [hlz]; simp
    have el : s.op.getLastD 0 = z := by rw [hlz]; simp
    rw [ed, el]
    have hpop : w.ownsRow w0.heap.size 3 1 (.slice (some ⟨o, 0, none⟩) l.length cap) l.length (l.map (Value.int .i64)) := ownsRow_pop (last := [.int .i64 z]) (by simp) (by simpa using hoo)
    have hpop' := ownsRow.blk hpop (w' := w') fun k hk => hf.block k (hpop.lt k hk).2 (fun e => hog (by simpa [Value.ownBlock, e] using hk)) (by simp) (by simp)
    have hmo := ownsRow.blk h.mo (w' := w') fun k hk => hf.block k (h.mo.lt k hk).2 (fun e => h.mg (by rw [hk, e])) (by simp) (by simp)
    refine ⟨.slice (some ⟨o, 0, none⟩) l.length cap, he, ⟨Below.of_fr h.bel hf h.gb (by simp) (by simp), ⟨_, hr, ?_⟩, hmo, hpop', h.gb, h.mg, ?_, ?_⟩, hf.wide, .inl (by rw [hO]; rfl)⟩
    · exact (h2.nx z).op _ l
    · intro e; exact hog (by simpa [Value.ownBlock] using e)
    · intro k hk e; exact h.ne k hk (by rw [hO]; exact e)
theorem act_call (HA : HdAt w0 H) (h : Rn H w0 g M O s nx w) (ho : s.op.length ≤ 1000) (op a b c : Int) (k : Nat) (hk : k < H.lf) :
    Calls Tryd.prog 79 #[.pointer (some ⟨g, 0, none⟩), .agg #[.int .i64 op, .int .i64 a, .int .i64 b, .int .i64 c, .int .u64 k]] w
      (AP H w0 g M O (if (s.op.length : Int) < H.p.stk then ({ s with op := s.op ++ [nx] }, H.p.fs.getD k 0, 0) else (s, nx, 4)) w) := by
  obtain ⟨cs, h1, h2⟩ := h.row
  obtain ⟨A, cap, hO, hcp, hmx, hx⟩ := own_open h.oo
  rw [HA.e1]
  have hfs := HA.img.f
  split
  · rename_i hlt
    obtain ⟨bf, of, hAf, hbf, hcf⟩ := hfs.mem (by omega)
    have h4 := h2.c4
    rw [hAf] at h4
    have hcell : w.cell? ⟨bf, of + k, none⟩ = some (.int .i64 (H.p.fs.getD k 0)) := (h.bel.cell (p := ⟨bf, of + k, none⟩) hbf).trans (hcf k hk)
    refine (call_ok g op a b c k H.stk nx _ O A s.op.length cap w0.heap.size s.op cs w h1 h2.sz hO h2.c17 h2.c1 h2.c18 bf of H.lf H.cf k h4 (Nat.le_trans hfs.hle hfs.hcap) hbf h.bel.size rfl hk hcell h.oo ho hlt h.og h.gb).mono ?_
    rintro e w' ⟨A', cap', he, hr, hown, hf, hor⟩
    refine ⟨.slice A' (s.op.length + 1) cap', he, ⟨Below.of_fr h.bel hf h.gb (by simp) (fun k hk => (h.oo.lt k hk).1), ⟨_, hr, (h2.op _ _).nx _⟩, ?_, by simpa using hown, h.gb, h.mg, ?_, ?_⟩, ?_, hor⟩
    · exact ownsRow.blk h.mo fun k hk => hf.block k (h.mo.lt k hk).2 (fun e => h.mg (by rw [hk, e])) (by simp) (fun e => h.ne k hk e.symm)
    · intro e
      rcases hor with h3 | ⟨k, h3, h4⟩
      · exact h.og (h3.symm.trans e)
      · rw [h3] at e; injection e with e; have := h1.lt; omega
    · intro j hj e
      rcases hor with h3 | ⟨k, h3, h4⟩
      · exact h.ne j hj (h3.symm.trans e)
      · rw [h3] at e; injection e with e; have := (h.mo.lt j hj).2; omega
    · exact ⟨hf.os, hf.tape, hf.output, hf.size, fun k hk h1 _ h3 => hf.block k hk h1 (by simp) h3⟩
  · rename_i hlt
    have h17 := h2.c17
    rw [hO] at h17
    refine (call_full g op a b c k H.stk A s.op.length cap cs w h1 h17 h2.c1 (Nat.le_trans hcp hmx) (by omega)).mono ?_
    rintro e w' ⟨he, hb⟩
    exact AP.still h he hb
theorem act_load (h : Rn H w0 g M O s nx w) (hl : s.rg.length = 8) (hB : Cd.isB s.mm) (a b c : Nat) (op m : Int) (ha : a < 8) (hb : b < 8) (hc0 : 0 < c) (hc : c ≤ 8) :
    Calls Tryd.prog 73 #[.pointer (some ⟨g, 0, none⟩), .agg #[.int .i64 op, .int .i64 a, .int .i64 b, .int .i64 c, .int .u64 m]] w
      (AP H w0 g M O (if Mc.there s ⟨op, a, b, c, m⟩ = true then (Mc.wr s ⟨op, a, b, c, m⟩ (Mc.lod s ⟨op, a, b, c, m⟩), nx, 0) else (s, nx, 2)) w) := by
  obtain ⟨cs, h1, h2⟩ := h.row
  obtain ⟨A, cap, hM, hcp, hmx, hx⟩ := own_open h.mo
  have h16 := h2.c16
  rw [hM] at h16
  have hlm := Nat.le_trans hcp hmx
  have ead : Mc.ad s ⟨op, a, b, c, m⟩ = (s.rg.getD b 0 + m) % 18446744073709551616 := by simp only [Mc.ad, rv_nat]
  split
  · rename_i ht
    have ht := of_decide_eq_true ht
    obtain ⟨k, hk⟩ := Int.eq_ofNat_of_zero_le (show 0 ≤ (s.rg.getD b 0 + m) % 18446744073709551616 by omega)
    have hkc : k + c ≤ s.mm.length := by rw [ead, hk] at ht; simp only at ht; omega
    have elod : Mc.lod s ⟨op, a, b, c, m⟩ = Mc.le ((s.mm.drop k).take c) := by
      unfold Mc.lod
      rw [ead, hk]
      simp
    rw [elod]
    obtain ⟨mb, cur, rfl, hob, hblk, hcs, htk⟩ := hx (by omega)
    refine (load_in g a b mb k c op c m _ ((s.mm.drop k).take c) cs w s.mm.length cap h1 h2.sz ha hb (h2.rg b hb) h16 hlm rfl hc hk hkc (by simp; omega) (Array.getElem?_eq_some_iff.1 hblk).1 (fun q hq => ?_) (fun z hz => Mc.isB_mem hB (List.mem_of_mem_drop (List.mem_of_mem_take hz)))).mono ?_
    · rw [row_cell hblk, take_get htk (by omega), getD_map' (by omega), List.getD_eq_getElem?_getD, List.getD_eq_getElem?_getD, List.getElem?_take_of_lt hq, List.getElem?_drop]
    rintro e w' ⟨he, hr, hf⟩
    exact AP.cells h he hr (h2.reg hl ha _) hf rfl rfl
  · rename_i ht
    have ht : ¬ (s.rg.getD b 0 + m) % 18446744073709551616 + (c : Int) ≤ s.mm.length := fun h3 => ht (decide_eq_true (by rw [ead]; exact h3))
    refine (load_out g b op a c m _ cs w A s.mm.length cap h1 hb (h2.rg b hb) h16 hlm (by omega) (by omega) ht).mono ?_
    rintro e w' ⟨he, hb⟩
    exact AP.still h he hb
theorem act_save (h : Rn H w0 g M O s nx w) (hr : ∀ x ∈ s.rg, 0 ≤ x ∧ x < 18446744073709551616) (a b c : Nat) (op m : Int) (ha : a < 8) (hb : b < 8) (hc0 : 0 < c) (hc : c ≤ 8) :
    Calls Tryd.prog 74 #[.pointer (some ⟨g, 0, none⟩), .agg #[.int .i64 op, .int .i64 a, .int .i64 b, .int .i64 c, .int .u64 m]] w
      (AP H w0 g M O (if Mc.there s ⟨op, a, b, c, m⟩ = true then ({ s with mm := Mc.sav s.mm (Mc.ad s ⟨op, a, b, c, m⟩).toNat (c : Int).toNat (Mc.rv s a) }, nx, 0) else (s, nx, 2)) w) := by
  obtain ⟨cs, h1, h2⟩ := h.row
  obtain ⟨A, cap, hM, hcp, hmx, hx⟩ := own_open h.mo
  have h16 := h2.c16
  rw [hM] at h16
  have hlm := Nat.le_trans hcp hmx
  have ead : Mc.ad s ⟨op, a, b, c, m⟩ = (s.rg.getD b 0 + m) % 18446744073709551616 := by simp only [Mc.ad, rv_nat]
  split
  · rename_i ht
    have ht := of_decide_eq_true ht
    obtain ⟨k, hk⟩ := Int.eq_ofNat_of_zero_le (show 0 ≤ (s.rg.getD b 0 + m) % 18446744073709551616 by omega)
    have hkc : k + c ≤ s.mm.length := by rw [ead, hk] at ht; simp only at ht; omega
    rw [ead, hk, rv_nat, show ((k : Int)).toNat = k by simp, show ((c : Int)).toNat = c by simp]
    obtain ⟨mb, cur, rfl, hob, hblk, hcs, htk⟩ := hx (by omega)
    have hy := Mc.rv_rng hr a
    rw [rv_nat] at hy
    have hmg : mb ≠ g := fun e => h.mg (by rw [hM, e]; rfl)
    have hMo : M.ownBlock = some mb := by rw [hM]; rfl
    refine (save_in g a b mb k c op c m _ _ cur cs w s.mm.length cap h1 h2.sz ha hb (h2.rg a ha) (h2.rg b hb) h16 hlm rfl hc hk hkc hblk (fun q hq => ⟨_, by rw [take_get htk hq, getD_map' hq]⟩) hy.1 hy.2 hmg).mono ?_
    rintro e w' ⟨he, hrr, hf⟩
    have hl2 : (Mc.sav s.mm k c (s.rg.getD a 0)).length = s.mm.length := Mc.sav_len hkc
    refine ⟨O, he, ⟨Below.of_fr h.bel hf hob (by simp) (by simp), ⟨cs, ?_, h2.mm _⟩, ?_, ?_, h.gb, h.mg, h.og, h.ne⟩, ?_, .inl rfl⟩
    · exact (hf.block g h1.lt (fun e => hmg e.symm) (by simp) (by simp)).trans h1
    · show w'.ownsRow _ 5 1 M (Mc.sav s.mm k c (s.rg.getD a 0)).length ((Mc.sav s.mm k c (s.rg.getD a 0)).map (Value.int .u8))
      rw [hl2, hM]
      exact ⟨by rw [List.length_map, Nat.mul_one]; exact hl2, .inr ⟨mb, cap, _, rfl, hob, hrr, hcp, hmx, by rw [svA_size]; simpa using hcs, by rw [Nat.mul_one]; exact sav_take htk hkc⟩⟩
    · exact ownsRow.blk h.oo fun k hk => hf.block k (h.oo.lt k hk).2 (fun e => h.ne mb hMo (by rw [hk, e])) (by simp) (by simp)
    · rw [hMo]
      exact ⟨hf.os, hf.tape, hf.output, hf.size, fun k hk _ h2 _ => hf.block k hk (fun e => h2 (by rw [e])) (by simp) (by simp)⟩
  · rename_i ht
    have ht : ¬ (s.rg.getD b 0 + m) % 18446744073709551616 + (c : Int) ≤ s.mm.length := fun h3 => ht (decide_eq_true (by rw [ead]; exact h3))
    refine (save_out g a b op c m _ _ cs w A s.mm.length cap h1 ha hb (h2.rg a ha) (h2.rg b hb) h16 hlm (by omega) (by omega) ht).mono ?_
    rintro e w' ⟨he, hb⟩
    exact AP.still h he hb

/-- Whatever an instruction that is right does. -/
theorem act_any (HA : HdAt w0 H) (h : Rn H w0 g M O s nx w) (hl : s.rg.length = 8) (hr : ∀ x ∈ s.rg, 0 ≤ x ∧ x < 18446744073709551616) (hB : Cd.isB s.mm) (ho : s.op.length ≤ 1000) (i : Im.I5) (hbad : Im.bad5 i = -1) (hm : 0 ≤ i.m) (hj : i.op = 21 ∨ i.op = 22 → i.m < 9223372036854775808) (hcall : i.op = 23 → i.m < H.lf) :
    Calls Tryd.prog (fnOf i.op.toNat) #[.pointer (some ⟨g, 0, none⟩), .agg #[.int .i64 i.op, .int .i64 i.a, .int .i64 i.b, .int .i64 i.c, .int .u64 i.m]] w (AP H w0 g M O (Mc.act H.p H.xs i s nx) w) := by
  obtain ⟨op, a, b, c, m⟩ := i
  simp only at hm hj hcall ⊢
  have hbad : Cd.bad op a b c m = -1 := hbad
  obtain ⟨o0, o1, a0, a1, b0, b1, c0, c1⟩ := Cd.bad_none hbad
  obtain ⟨n, rfl⟩ := Int.eq_ofNat_of_zero_le o0
  obtain ⟨a, rfl⟩ := Int.eq_ofNat_of_zero_le a0
  obtain ⟨b, rfl⟩ := Int.eq_ofNat_of_zero_le b0
  obtain ⟨c, rfl⟩ := Int.eq_ofNat_of_zero_le c0
  have ha : a < 8 := by omega
  have hb : b < 8 := by omega
  have hn : n < 26 := by omega
  have hc8 : c ≤ 8 := by omega
  have key : ∀ (k : Nat), n = k → Cd.kc k = 1 → c < 8 := fun k e hk => by
    have := bad_c hbad (by rw [e]; simpa using hk)
    omega
  have hc17 : n = 17 ∨ n = 18 → 0 < c := fun e => by
    rcases Nat.eq_zero_or_pos c with h0 | h0
    · rcases e with rfl | rfl <;> (rw [h0] at hbad; exact absurd (bad_w hbad rfl) (by decide))
    · exact h0
  match n, hn with
  | 0, _ =>
    obtain ⟨cs, h1, h2⟩ := h.row
    refine (halt_any g _ _ _ _ m w).mono ?_
    rintro e w' ⟨he, hb⟩
    exact AP.still h he hb
  | 25, _ =>
    obtain ⟨cs, h1, h2⟩ := h.row
    refine (fail_any g _ _ _ _ m w).mono ?_
    rintro e w' ⟨he, hb⟩
    exact AP.still h he hb
  | 1, _ => exact act_set h hl a 1 b c m ha
  | 2, _ => exact act_copy h hl a b 2 c m ha hb
  | 17, _ => exact act_load h hl hB a b c 17 m ha hb (hc17 (.inl rfl)) hc8
  | 18, _ => exact act_save h hr a b c 18 m ha hb (hc17 (.inr rfl)) hc8
  | 19, _ => exact act_read HA h hl a b 19 c m ha hb
  | 20, _ => exact act_length HA h hl a 20 b c m ha
  | 21, _ => exact act_jump h 21 a b c m hm (hj (.inl rfl))
  | 22, _ => exact act_branch h a 22 b c m ha hm (hj (.inr rfl))
  | 23, _ =>
    obtain ⟨k, rfl⟩ := Int.eq_ofNat_of_zero_le hm
    exact act_call HA h ho 23 a b c k (by have := hcall rfl; omega)
  | 24, _ => exact act_back h 24 a b c m
  | 6, _ => 
    have e : Mc.act H.p H.xs ⟨((6 : Nat) : Int), a, b, c, m⟩ s nx = (if Mc.rv s c = 0 then (s, nx, 3) else (Mc.wr s ⟨((6 : Nat) : Int), a, b, c, m⟩ (Wd.app (((6 : Nat) : Int) + 5) 64 (Mc.rv s b) (Mc.rv s c)), nx, 0)) := by simp [Mc.act]
    rw [e]
    exact act_divide h hl 6 a b c m (by decide) ha hb (key 6 rfl (by decide))
  | 7, _ => 
    have e : Mc.act H.p H.xs ⟨((7 : Nat) : Int), a, b, c, m⟩ s nx = (if Mc.rv s c = 0 then (s, nx, 3) else (Mc.wr s ⟨((7 : Nat) : Int), a, b, c, m⟩ (Wd.app (((7 : Nat) : Int) + 5) 64 (Mc.rv s b) (Mc.rv s c)), nx, 0)) := by simp [Mc.act]
    rw [e]
    exact act_divide h hl 7 a b c m (by decide) ha hb (key 7 rfl (by decide))
  | 3, _ => 
    have e : Mc.act H.p H.xs ⟨((3 : Nat) : Int), a, b, c, m⟩ s nx = (Mc.wr s ⟨((3 : Nat) : Int), a, b, c, m⟩ (Wd.app (((3 : Nat) : Int) + 5) 64 (Mc.rv s b) (Mc.rv s c)), nx, 0) := by simp [Mc.act]
    rw [e]
    exact act_apply h hl 3 a b c m (by decide) ha hb (key 3 rfl (by decide))
  | 4, _ => 
    have e : Mc.act H.p H.xs ⟨((4 : Nat) : Int), a, b, c, m⟩ s nx = (Mc.wr s ⟨((4 : Nat) : Int), a, b, c, m⟩ (Wd.app (((4 : Nat) : Int) + 5) 64 (Mc.rv s b) (Mc.rv s c)), nx, 0) := by simp [Mc.act]
    rw [e]
    exact act_apply h hl 4 a b c m (by decide) ha hb (key 4 rfl (by decide))
  | 5, _ => 
    have e : Mc.act H.p H.xs ⟨((5 : Nat) : Int), a, b, c, m⟩ s nx = (Mc.wr s ⟨((5 : Nat) : Int), a, b, c, m⟩ (Wd.app (((5 : Nat) : Int) + 5) 64 (Mc.rv s b) (Mc.rv s c)), nx, 0) := by simp [Mc.act]
    rw [e]
    exact act_apply h hl 5 a b c m (by decide) ha hb (key 5 rfl (by decide))
  | 8, _ => 
    have e : Mc.act H.p H.xs ⟨((8 : Nat) : Int), a, b, c, m⟩ s nx = (Mc.wr s ⟨((8 : Nat) : Int), a, b, c, m⟩ (Wd.app (((8 : Nat) : Int) + 5) 64 (Mc.rv s b) (Mc.rv s c)), nx, 0) := by simp [Mc.act]
    rw [e]
    exact act_apply h hl 8 a b c m (by decide) ha hb (key 8 rfl (by decide))
  | 9, _ => 
    have e : Mc.act H.p H.xs ⟨((9 : Nat) : Int), a, b, c, m⟩ s nx = (Mc.wr s ⟨((9 : Nat) : Int), a, b, c, m⟩ (Wd.app (((9 : Nat) : Int) + 5) 64 (Mc.rv s b) (Mc.rv s c)), nx, 0) := by simp [Mc.act]
    rw [e]
    exact act_apply h hl 9 a b c m (by decide) ha hb (key 9 rfl (by decide))
  | 10, _ => 
    have e : Mc.act H.p H.xs ⟨((10 : Nat) : Int), a, b, c, m⟩ s nx = (Mc.wr s ⟨((10 : Nat) : Int), a, b, c, m⟩ (Wd.app (((10 : Nat) : Int) + 5) 64 (Mc.rv s b) (Mc.rv s c)), nx, 0) := by simp [Mc.act]
    rw [e]
    exact act_apply h hl 10 a b c m (by decide) ha hb (key 10 rfl (by decide))
  | 11, _ => 
    have e : Mc.act H.p H.xs ⟨((11 : Nat) : Int), a, b, c, m⟩ s nx = (Mc.wr s ⟨((11 : Nat) : Int), a, b, c, m⟩ (Wd.app (((11 : Nat) : Int) + 5) 64 (Mc.rv s b) (Mc.rv s c)), nx, 0) := by simp [Mc.act]
    rw [e]
    exact act_apply h hl 11 a b c m (by decide) ha hb (key 11 rfl (by decide))
  | 12, _ => 
    have e : Mc.act H.p H.xs ⟨((12 : Nat) : Int), a, b, c, m⟩ s nx = (Mc.wr s ⟨((12 : Nat) : Int), a, b, c, m⟩ (Wd.app (((12 : Nat) : Int) + 5) 64 (Mc.rv s b) (Mc.rv s c)), nx, 0) := by simp [Mc.act]
    rw [e]
    exact act_apply h hl 12 a b c m (by decide) ha hb (key 12 rfl (by decide))
  | 13, _ => 
    have e : Mc.act H.p H.xs ⟨((13 : Nat) : Int), a, b, c, m⟩ s nx = (Mc.wr s ⟨((13 : Nat) : Int), a, b, c, m⟩ (Wd.app (((13 : Nat) : Int) + 5) 64 (Mc.rv s b) (Mc.rv s c)), nx, 0) := by simp [Mc.act]
    rw [e]
    exact act_apply h hl 13 a b c m (by decide) ha hb (key 13 rfl (by decide))
  | 14, _ => 
    have e : Mc.act H.p H.xs ⟨((14 : Nat) : Int), a, b, c, m⟩ s nx = (Mc.wr s ⟨((14 : Nat) : Int), a, b, c, m⟩ (Wd.app (((14 : Nat) : Int) + 5) 64 (Mc.rv s b) (Mc.rv s c)), nx, 0) := by simp [Mc.act]
    rw [e]
    exact act_apply h hl 14 a b c m (by decide) ha hb (key 14 rfl (by decide))
  | 15, _ => 
    have e : Mc.act H.p H.xs ⟨((15 : Nat) : Int), a, b, c, m⟩ s nx = (Mc.wr s ⟨((15 : Nat) : Int), a, b, c, m⟩ (Wd.app (((15 : Nat) : Int) + 5) 64 (Mc.rv s b) (Mc.rv s c)), nx, 0) := by simp [Mc.act]
    rw [e]
    exact act_apply h hl 15 a b c m (by decide) ha hb (key 15 rfl (by decide))
  | 16, _ => 
    have e : Mc.act H.p H.xs ⟨((16 : Nat) : Int), a, b, c, m⟩ s nx = (Mc.wr s ⟨((16 : Nat) : Int), a, b, c, m⟩ (Wd.app (((16 : Nat) : Int) + 5) 64 (Mc.rv s b) (Mc.rv s c)), nx, 0) := by simp [Mc.act]
    rw [e]
    exact act_apply h hl 16 a b c m (by decide) ha hb (key 16 rfl (by decide))
  | n + 26, h => exact absurd h (by omega)
end
end Go.Proofs.YthkhadbeomkihaaDoor
