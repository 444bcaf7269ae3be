/-
  The reference's Decode.
-/
import Derived.Test.YtjadiijjahjjoaaDoorImN6
import Derived.BigRegion
namespace Go.Proofs.YtjadiijjahjjoaaDoor
open Go.RowKit

/-- append of elements of more cells onto a row of the call's own. -/
theorem wpList_apS {P : Program} {w : World} {ops : Array Oper} {rest : List Oper} {o : Oper} {a : Act} {Q : Exit → Act → World → Prop} (hgd : o.guard = none) (s x : Operand) (t : TypeId)
    (ho : o.op = .call { callee := .builtin .append, args := #[s, x], argTypes := #[t, t] })
    (base : Nat) (e : TypeId) (i : TypeInfo) (z : Value) (size bytes : Nat) (ht : P.underlying t = some (.slice e)) (hi : P.info? e = some i) (hz : i.zero = some z)
    (hsize : i.size = size) (hby : i.bytes = bytes) (hzs : z.cells.size = size) (hsz : 0 < size)
    (v : Value) (n : Nat) (xs : List Value) (hs : a.eval s = v) (hown : w.ownsRow base e size v n xs)
    (ad : Addr) (m c : Nat) (news : List Value) (hx : a.eval x = .slice (some ad) m c) (hl : news.length = m * size) (hnews : ∀ j u, news[j]? = some u → w.cell? (ad.add j) = some u) (h1 : ∀ u ∈ news, u.oneCell' = true)
    (h63 : n + m ≤ maxLen) (hbytes : (n + m) * bytes ≤ 140737488355328) (hbase : base ≤ w.heap.size) (N : Nat) (L : List Value) (hN : n + m = N) (hL : xs ++ news = L)
    (h : ∀ A' cap' w', w'.ownsRow base e size (.slice A' N cap') N L → Below base w w' → wpList P ops Q rest (a.put o.dst (.slice A' N cap')) w') : wpList P ops Q (o :: rest) a w := by
  subst hN hL
  obtain ⟨v', w', hrun, h2, h3, _, _⟩ := run_append_own_at (P := P) w base t o.type e i z size bytes ht hi hz hsize hby hzs hsz v n xs hown ad m c news hl hnews h1 h63 hbytes hbase
  have hk : ∀ k, v.ownBlock = some k → base ≤ k := fun k hk => by
    rcases hown.2 with ⟨rfl, _⟩ | ⟨g, cap, cur, rfl, hb, _⟩
    · simp [Value.ownBlock] at hk
    · simp [Value.ownBlock] at hk; omega
  have h4 := (Below.refl base w).grown h3 hbase hk
  have hv : ∃ A' cap', v' = .slice A' (n + m) cap' := by
    rcases h2.2 with ⟨rfl, h0⟩ | ⟨g, cap, cur, rfl, _⟩
    · exact ⟨none, 0, by rw [h0]⟩
    · exact ⟨_, _, rfl⟩
  obtain ⟨A', cap', rfl⟩ := hv
  refine wpList_plain hgd fun K hK => ?_
  unfold Oper.wp execOp
  simp only [ho, resolve, invoke, builtin, Sem.run_bind, Sem.run_pure, Result.andThen_ok, List.map_toArray, List.map_cons, List.map_nil, hs, hx, hrun]
  exact hK _ _ (h A' cap' w' h2 h4)

/-- The cells of an instruction. -/
def cells5 (i : Im.I5) : List Value := [.int .i64 i.op, .int .i64 i.a, .int .i64 i.b, .int .i64 i.c, .int .u64 i.m]
theorem cells5_at : ∀ (cs : List Im.I5) (i j : Nat), i < cs.length → j < 5 → (cs.flatMap cells5)[i * 5 + j]? = (cells5 (cs.getD i Im.z5))[j]?
  | [], _, _, h, _ => absurd h (by simp)
  | x :: r, 0, j, _, hj => by
    rw [List.flatMap_cons, List.getElem?_append_left (by show 0 * 5 + j < 5; omega), Nat.zero_mul, Nat.zero_add]; rfl
  | x :: r, i + 1, j, h, hj => by
    rw [List.flatMap_cons, List.getElem?_append_right (by show 5 ≤ (i + 1) * 5 + j; omega), show (i + 1) * 5 + j - (cells5 x).length = i * 5 + j by show (i + 1) * 5 + j - 5 = _; omega]
    exact cells5_at r i j (by simpa using h) hj
theorem cells5_len (cs : List Im.I5) : (cs.flatMap cells5).length = cs.length * 5 := by
  induction cs with
  | nil => rfl
  | cons x r ih => rw [List.flatMap_cons, List.length_append, ih, List.length_cons, show (cells5 x).length = 5 from rfl]; omega
theorem CoSl.of_own {w : World} {base : Nat} {A : Option Addr} {n cap : Nat} {cs : List Im.I5} (h : w.ownsRow base 43 5 (.slice A n cap) n (cs.flatMap cells5)) (hr : ∀ i, 0 ≤ (cs.getD i Im.z5).m ∧ (cs.getD i Im.z5).m < 18446744073709551616) : CoSl w A n cap cs := by
  have hl : cs.length = n := by have := h.1; rw [cells5_len] at this; omega
  rcases h.2 with ⟨e, h0⟩ | ⟨g, cap', cur, e, hb, hg, h1, h2, _, _⟩
  · injection e with e1 e2 e3
    subst e1 e3
    exact ⟨hl, by omega, Nat.zero_le _, fun _ => h0, hr, fun hn => by omega⟩
  · injection e with e1 e2 e3
    subst e1 e3
    refine ⟨hl, h1, h2, (fun hA => by cases hA), hr, fun hn => ⟨g, 0, rfl, blk_lt (t := 43) hg, fun i hi => ?_⟩⟩
    have key : ∀ j u, j < 5 → (cells5 (cs.getD i Im.z5))[j]? = some u → w.cell? ⟨g, 0 + i * 5 + j, none⟩ = some u := fun j u hj hu => by
      have := h.cells (g := g) rfl (i * 5 + j) u (by rw [cells5_at cs i j (by omega) hj]; exact hu)
      rw [add_at] at this
      rwa [Nat.add_assoc]
    exact ⟨key 0 _ (by omega) rfl, key 1 _ (by omega) rfl, key 2 _ (by omega) rfl, key 3 _ (by omega) rfl, key 4 _ (by omega) rfl⟩
theorem Byts.from {w : World} {b o q : Nat} {xs : List Int} (h : Byts w ⟨b, o, none⟩ xs) : Byts w ⟨b, o + q, none⟩ (xs.drop q) := fun j hj => by
  rw [List.length_drop] at hj
  rw [add_at, Nat.add_assoc, List.getD_eq_getElem?_getD, List.getElem?_drop, ← List.getD_eq_getElem?_getD]
  exact h.at0 (q + j) (by omega)
theorem InSl.rd {g : Nat} {w w' : World} {A : Option Addr} {len cap : Nat} {xs : List Int} (h : InSl w A len cap xs) (hr : Rd g w w') (hn : ∀ b o s, A = some ⟨b, o, s⟩ → b ≠ g) : InSl w' A len cap xs :=
  ⟨h.hlen, h.hle, h.hcap, h.hnone, fun h0 => by
    obtain ⟨b, o, e, hlt, hx⟩ := h.mem h0
    exact ⟨b, o, e, Nat.lt_of_lt_of_le hlt hr.size, fun i hi => (World.cell?_of_block (w := w) (hr.block b hlt (hn b o none e))).trans (hx i hi)⟩⟩
theorem own_farS {w : World} {base size : Nat} {A : Option Addr} {n cap : Nat} {e : TypeId} {xs : List Value} (h : w.ownsRow base e size (.slice A n cap) n xs) : ∀ b o s, A = some ⟨b, o, s⟩ → base ≤ b := fun b o s e => by
  rcases h.2 with ⟨h1, _⟩ | ⟨g, cap', cur, h1, hb, _⟩
  · injection h1 with h1; rw [h1] at e; cases e
  · injection h1 with h1; rw [h1] at e; injection e with e; injection e with e; omega
theorem pl_bd (op a b c m : Int) : 0 ≤ Cd.pl (Cd.bad op a b c m) ∧ Cd.pl (Cd.bad op a b c m) ≤ 4 := by
  rcases Cd.bad_cases op a b c m with e | e | e | e | e | e <;> rw [e] <;> decide
theorem insAt_rng {xs : List Int} (hB : Cd.isB xs) (s n i : Nat) : 0 ≤ (((List.range n).map (Im.insAt xs s)).getD i Im.z5).m ∧ (((List.range n).map (Im.insAt xs s)).getD i Im.z5).m < 18446744073709551616 := by
  rcases Nat.lt_or_ge i n with h | h
  · rw [List.getD_eq_getElem?_getD, List.getElem?_map, List.getElem?_range h]
    exact val_bd _ (Im.isB_drop hB _)
  · rw [List.getD_eq_getElem?_getD, List.getElem?_map, List.getElem?_eq_none (by simpa using h)]
    show 0 ≤ (0 : Int) ∧ (0 : Int) < _
    omega
theorem news5 (U : World) (op x1 x2 x3 x4 : Int) : ∀ j u, [Value.int .i64 op, .int .i64 x1, .int .i64 x2, .int .i64 x3, .int .u64 x4][j]? = some u → (U.alloc (.cells #[.int .i64 op, .int .i64 x1, .int .i64 x2, .int .i64 x3, .int .u64 x4] 43)).cell? ((⟨U.heap.size, 0, none⟩ : Addr).add j) = some u := fun j u hu => by
  rw [add_at, Nat.zero_add, cell_of_row _ _ _ _ _ _ (heap_alloc_new U _)]
  simpa using hu
theorem one5 (op x1 x2 x3 x4 : Int) : ∀ u ∈ [Value.int .i64 op, .int .i64 x1, .int .i64 x2, .int .i64 x3, .int .u64 x4], u.oneCell' = true := fun u hu => by
  simp only [List.mem_cons, List.not_mem_nil, or_false] at hu
  rcases hu with rfl | rfl | rfl | rfl | rfl <;> rfl
theorem ins_take (xs : List Int) (s k : Nat) : ((List.range (k + 1)).map (Im.insAt xs s)).flatMap cells5 = ((List.range k).map (Im.insAt xs s)).flatMap cells5 ++ cells5 (Im.insAt xs s k) := by
  rw [List.range_succ, List.map_append, List.flatMap_append]; simp
theorem Rd.far {g : Nat} {u a b : World} (h : Rd g u a) (hb : Below u.heap.size a b) : Rd g u b :=
  ⟨hb.os.trans h.os, hb.tape.trans h.tape, hb.output.trans h.output, Nat.le_trans h.size hb.size, fun k hk hn => (hb.block k hk).trans (h.block k hk hn)⟩

set_option maxRecDepth 20000 in
set_option maxHeartbeats 3200000 in
theorem decode_ref (A : Option Addr) (len cap : Nat) (xs : List Int) (w : World) (hx : BySl w A len cap xs) (hl : len ≤ 4000) : Calls Tryd.prog 16 #[.slice A len cap] w (DecP xs w) := by
  have hlc := hx.hle
  have hcp := hx.hcap
  unfold maxLen at hcp
  obtain ⟨i0, hi0, hz0, hz1, hz2⟩ := ins_info
  have HX := Lib.hid hx
  have HLEN := Lib.hid hx.hlen
  have HB8 := Lib.hid hx.isB
  have HP1 := Lib.hid (show PB (w.alloc (.cells #[.int .i64 0, .int .i64 0, .int .i64 0, .slice none 0 0, .slice none 0 0, .slice none 0 0] 26)) w.heap.size (.int .i64 0) (.int .i64 0) (.int .i64 0) (.slice none 0 0) (.slice none 0 0) (.slice none 0 0) from heap_alloc_new w _)
  have HFR := Lib.hid (front_any A len cap xs (w.alloc (.cells #[.int .i64 0, .int .i64 0, .int .i64 0, .slice none 0 0, .slice none 0 0, .slice none 0 0] 26)) (hx.below (Below.box w _)))
  clear hx
  go_enter Tryd.func16, Tryd.ntmps16
  go_wp2_with fail
  refine HFR.out.mono ?_
  rintro e v ⟨hb, ⟨a, b', hd, ha, rfl⟩ | ⟨hd, hnd, Ad, ld, cd, rfl, hds, hfz⟩⟩
  · have HPv := Lib.hid (HP1.out.keep hb)
    have HBv := Lib.hid (show Below w.heap.size w v from (Below.box w _).trans (hb.mono (by simp)))
    have hlt : w.heap.size < v.heap.size := HPv.out.lt
    have e1 : (a == 0) = false := by simpa using ha
    have e2 : (a != 0) = true := by simpa using ha
    have HD := Lib.hid hd
    have HA := Lib.hid ha
    clear hb hd ha
    go_upto_region 5 with fail
    have hN : NB (v.alloc (.cells #[.int .i64 0, .int .i64 0, .int .i64 0, .slice none 0 0, .slice none 0 0, .slice none 0 0, .int .i64 0, .int .i64 a, .int .i64 b'] 62)) v.heap.size (.int .i64 0) (.int .i64 0) (.int .i64 0) (.slice none 0 0) (.slice none 0 0) (.slice none 0 0) (.int .i64 0) (.int .i64 a) (.int .i64 b') := heap_alloc_new v _
    have hP := HPv.out.keep (Below.box v (.cells #[.int .i64 0, .int .i64 0, .int .i64 0, .slice none 0 0, .slice none 0 0, .slice none 0 0, .int .i64 0, .int .i64 a, .int .i64 b'] 62))
    have hB := HBv.out.alloc HBv.out.size (.cells #[.int .i64 0, .int .i64 0, .int .i64 0, .slice none 0 0, .slice none 0 0, .slice none 0 0, .int .i64 0, .int .i64 a, .int .i64 b'] 62)
    revert hN hP hB
    generalize v.alloc (.cells #[.int .i64 0, .int .i64 0, .int .i64 0, .slice none 0 0, .slice none 0 0, .slice none 0 0, .int .i64 0, .int .i64 a, .int .i64 b'] 62) = U
    intro hN hP hB
    have q7 := hN.c7
    have q8 := hN.c8
    have HP := Lib.hid hP
    have HB := Lib.hid hB
    have hne : ¬ w.heap.size = v.heap.size := by omega
    have hne' : ¬ v.heap.size = w.heap.size := by omega
    clear hN hP hB
    have p0 := HP.out.c0
    have p1 := HP.out.c1
    have p2 := HP.out.c2
    have p3 := HP.out.c3
    have p4 := HP.out.c4
    have p5 := HP.out.c5
    have pf := HP.out.fr
    go_wp2
    go_region
    go_wp2
    have hall := (((((HP.out.s0 (.int .i64 0)).s1 (.int .i64 0)).s2 (.int .i64 0)).s3 (.slice none 0 0)).s4 (.slice none 0 0)).s5 (.slice none 0 0)
    have hbel := set6_below HB.out (Nat.le_refl w.heap.size) (.int .i64 0) (.int .i64 0) (.int .i64 0) (.slice none 0 0) (.slice none 0 0) (.slice none 0 0)
    clear p0 p1 p2 p3 p4 p5 pf HP HB
    revert hall hbel
    generalize ((((((U.setCell ⟨w.heap.size, 0, none⟩ (.int .i64 0)).setCell ⟨w.heap.size, 1, none⟩ (.int .i64 0)).setCell ⟨w.heap.size, 2, none⟩ (.int .i64 0)).setCell ⟨w.heap.size, 3, none⟩ (.slice none 0 0)).setCell ⟨w.heap.size, 4, none⟩ (.slice none 0 0)).setCell ⟨w.heap.size, 5, none⟩ (.slice none 0 0)) = W'
    intro hall hbel
    have t0 := hall.c0
    have t1 := hall.c1
    have t2 := hall.c2
    have t3 := hall.c3
    have t4 := hall.c4
    have t5 := hall.c5
    have tl : ¬ w.heap.size = W'.heap.size := Nat.ne_of_lt hall.lt
    refine bodyPost_ret (v := .tuple #[.agg #[.int .i64 0, .int .i64 0, .int .i64 0, .slice none 0 0, .slice none 0 0, .slice none 0 0], .int .i64 a, .int .i64 b']) (by simp [results, Tryd.results16, go_sem, t0, t1, t2, t3, t4, t5, tl] <;> omega) rfl ⟨by first | exact hbel.drew | exact hbel | exact (hbel.alloc (Nat.le_of_lt hall.lt) _).drew | exact hbel.alloc (Nat.le_of_lt hall.lt) _, .inl ⟨a, b', HD.out, HA.out, rfl⟩⟩
  · obtain ⟨i, hi⟩ : ∃ i, 9 + Im.nd xs = i := ⟨_, rfl⟩
    rw [hi] at hnd ⊢
    have hil : i ≤ len := by have := HLEN.out; omega
    have hi9 : 9 ≤ i := by omega
    obtain ⟨b, o, rfl, hbw, hby⟩ := HX.out.mem (by omega)
    have HBY := Lib.hid hby
    have HPv := Lib.hid (HP1.out.keep hb)
    have HBv := Lib.hid (show Below w.heap.size w v from (Below.box w _).trans (hb.mono (by simp)))
    have hlt : w.heap.size < v.heap.size := HPv.out.lt
    have HDS := Lib.hid hds
    have HFZ := Lib.hid (fun b o s e => Nat.lt_of_lt_of_le (Nat.lt_succ_self _) (show w.heap.size + 1 ≤ b by have := hfz b o s e; rwa [World.size_alloc] at this))
    have HBX := Lib.hid (HBv.out.alloc HBv.out.size (.cells #[.int .i64 (Im.num xs 5 1), .int .i64 (Im.num xs 6 1), .int .i64 (Im.num xs 7 1), .slice Ad ld cd, .slice none 0 0, .slice none 0 0, .int .i64 i, .int .i64 0, .int .i64 0] 62))
    have HG1 := Lib.hid (show NB (v.alloc (.cells #[.int .i64 (Im.num xs 5 1), .int .i64 (Im.num xs 6 1), .int .i64 (Im.num xs 7 1), .slice Ad ld cd, .slice none 0 0, .slice none 0 0, .int .i64 i, .int .i64 0, .int .i64 0] 62)) v.heap.size (.int .i64 (Im.num xs 5 1)) (.int .i64 (Im.num xs 6 1)) (.int .i64 (Im.num xs 7 1)) (.slice Ad ld cd) (.slice none 0 0) (.slice none 0 0) (.int .i64 i) (.int .i64 0) (.int .i64 0) from heap_alloc_new v _)
    have HFU := Lib.hid (funs_ref b o len cap xs (Im.num xs 5 1) (Im.num xs 6 1) (Im.num xs 7 1) Ad ld cd i (v.alloc (.cells #[.int .i64 (Im.num xs 5 1), .int .i64 (Im.num xs 6 1), .int .i64 (Im.num xs 7 1), .slice Ad ld cd, .slice none 0 0, .slice none 0 0, .int .i64 i, .int .i64 0, .int .i64 0] 62)) (HX.out.below HBX.out) (by omega) hi hil hd)
    clear hb hd hby hds hfz hi hnd
    go_wp2_with fail
    refine HFU.out.mono ?_
    rintro e v2 ⟨hb2, ⟨a, b', hd2, ha, rfl⟩ | ⟨hd2, hsl, f1, f2, k1, k2, hpl, Af, lf, cf, rfl, hfs, hffz⟩⟩
    · have e1 : (a == 0) = false := by simpa using ha
      have e2 : (a != 0) = true := by simpa using ha
      have HD := Lib.hid hd2
      have HA := Lib.hid ha
      have HG2 := Lib.hid (HG1.out.keep hb2)
      have HP2 := Lib.hid ((HPv.out.keep (Below.box v _)).keep hb2)
      have HB2 := Lib.hid (HBX.out.trans (hb2.mono HBX.out.size))
      clear hb2 hd2 ha
      have q0 := HG2.out.c0
      have q1 := HG2.out.c1
      have q2 := HG2.out.c2
      have q3 := HG2.out.c3
      have q4 := HG2.out.c4
      have q5 := HG2.out.c5
      have q6 := HG2.out.c6
      have q7 := HG2.out.c7
      have q8 := HG2.out.c8
      have qf := HG2.out.fr
      go_upto_region 5 with fail
      have hN := NB.all HG2.out (.int .i64 0) (.int .i64 0) (.int .i64 0) (.slice none 0 0) (.slice none 0 0) (.slice none 0 0) (.int .i64 0) (.int .i64 a) (.int .i64 b')
      have hP : PB (((((((((v2.setCell ⟨v.heap.size, 0, none⟩ (.int .i64 0)).setCell ⟨v.heap.size, 1, none⟩ (.int .i64 0)).setCell ⟨v.heap.size, 2, none⟩ (.int .i64 0)).setCell ⟨v.heap.size, 3, none⟩ (.slice none 0 0)).setCell ⟨v.heap.size, 4, none⟩ (.slice none 0 0)).setCell ⟨v.heap.size, 5, none⟩ (.slice none 0 0)).setCell ⟨v.heap.size, 6, none⟩ (.int .i64 0)).setCell ⟨v.heap.size, 7, none⟩ (.int .i64 a)).setCell ⟨v.heap.size, 8, none⟩ (.int .i64 b')) w.heap.size (.int .i64 0) (.int .i64 0) (.int .i64 0) (.slice none 0 0) (.slice none 0 0) (.slice none 0 0) := ((rd9 (g := v.heap.size) v2 (.int .i64 0) (.int .i64 0) (.int .i64 0) (.slice none 0 0) (.slice none 0 0) (.slice none 0 0) (.int .i64 0) (.int .i64 a) (.int .i64 b')).block _ HP2.out.lt (Nat.ne_of_lt hlt)).trans HP2.out
      have hB := set9_below HB2.out (Nat.le_of_lt hlt) (.int .i64 0) (.int .i64 0) (.int .i64 0) (.slice none 0 0) (.slice none 0 0) (.slice none 0 0) (.int .i64 0) (.int .i64 a) (.int .i64 b')
      clear q0 q1 q2 q3 q4 q5 q6 q7 q8 qf
      revert hN hP hB
      generalize (((((((((v2.setCell ⟨v.heap.size, 0, none⟩ (.int .i64 0)).setCell ⟨v.heap.size, 1, none⟩ (.int .i64 0)).setCell ⟨v.heap.size, 2, none⟩ (.int .i64 0)).setCell ⟨v.heap.size, 3, none⟩ (.slice none 0 0)).setCell ⟨v.heap.size, 4, none⟩ (.slice none 0 0)).setCell ⟨v.heap.size, 5, none⟩ (.slice none 0 0)).setCell ⟨v.heap.size, 6, none⟩ (.int .i64 0)).setCell ⟨v.heap.size, 7, none⟩ (.int .i64 a)).setCell ⟨v.heap.size, 8, none⟩ (.int .i64 b')) = U
      intro hN hP hB
      have q7 := hN.c7
      have q8 := hN.c8
      have HP := Lib.hid hP
      have HB := Lib.hid hB
      have hne : ¬ w.heap.size = v.heap.size := by omega
      have hne' : ¬ v.heap.size = w.heap.size := by omega
      clear hN hP hB
      have p0 := HP.out.c0
      have p1 := HP.out.c1
      have p2 := HP.out.c2
      have p3 := HP.out.c3
      have p4 := HP.out.c4
      have p5 := HP.out.c5
      have pf := HP.out.fr
      go_wp2
      go_region
      go_wp2
      have hall := (((((HP.out.s0 (.int .i64 0)).s1 (.int .i64 0)).s2 (.int .i64 0)).s3 (.slice none 0 0)).s4 (.slice none 0 0)).s5 (.slice none 0 0)
      have hbel := set6_below HB.out (Nat.le_refl w.heap.size) (.int .i64 0) (.int .i64 0) (.int .i64 0) (.slice none 0 0) (.slice none 0 0) (.slice none 0 0)
      clear p0 p1 p2 p3 p4 p5 pf HP HB
      revert hall hbel
      generalize ((((((U.setCell ⟨w.heap.size, 0, none⟩ (.int .i64 0)).setCell ⟨w.heap.size, 1, none⟩ (.int .i64 0)).setCell ⟨w.heap.size, 2, none⟩ (.int .i64 0)).setCell ⟨w.heap.size, 3, none⟩ (.slice none 0 0)).setCell ⟨w.heap.size, 4, none⟩ (.slice none 0 0)).setCell ⟨w.heap.size, 5, none⟩ (.slice none 0 0)) = W'
      intro hall hbel
      have t0 := hall.c0
      have t1 := hall.c1
      have t2 := hall.c2
      have t3 := hall.c3
      have t4 := hall.c4
      have t5 := hall.c5
      have tl : ¬ w.heap.size = W'.heap.size := Nat.ne_of_lt hall.lt
      refine bodyPost_ret (v := .tuple #[.agg #[.int .i64 0, .int .i64 0, .int .i64 0, .slice none 0 0, .slice none 0 0, .slice none 0 0], .int .i64 a, .int .i64 b']) (by simp [results, Tryd.results16, go_sem, t0, t1, t2, t3, t4, t5, tl] <;> omega) rfl ⟨by first | exact hbel.drew | exact hbel | exact (hbel.alloc (Nat.le_of_lt hall.lt) _).drew | exact hbel.alloc (Nat.le_of_lt hall.lt) _, .inl ⟨a, b', HD.out, HA.out, rfl⟩⟩
    · have HD := Lib.hid hd2
      have HPL := Lib.hid hpl
      have HFS := Lib.hid hfs
      have HFF := Lib.hid (fun b o s e => Nat.lt_of_lt_of_le (Nat.lt_succ_self _) (show v.heap.size + 1 ≤ b by have := hffz b o s e; rwa [World.size_alloc] at this))
      have HG2 := Lib.hid (HG1.out.keep hb2)
      have HP2 := Lib.hid ((HPv.out.keep (Below.box v _)).keep hb2)
      have HB2 := Lib.hid (HBX.out.trans (hb2.mono HBX.out.size))
      have HDS2 := Lib.hid ((HDS.out.below (Below.box v _)).below hb2)
      have HDB := Lib.hid (show ∀ b o s, 0 < ld → Ad = some ⟨b, o, s⟩ → b < v.heap.size from fun b o s h0 e => by
        obtain ⟨b1, o1, e1, h1, _⟩ := HDS.out.mem h0
        rw [e1] at e
        injection e with e
        injection e with e2 e3 e4
        omega)
      obtain ⟨s, hs⟩ : ∃ s, Im.sAt xs = s := ⟨_, rfl⟩
      obtain ⟨m, hm⟩ : ∃ m, Im.nk xs = m := ⟨_, rfl⟩
      rw [hs] at hsl ⊢
      rw [hm] at k1 k2 ⊢
      have HS := Lib.hid hs
      have HM := Lib.hid hm
      have hsl' : s ≤ len := by have := HLEN.out; omega
      clear hb2 hd2 hpl hfs hffz hs hm hsl
      have q0 := HG2.out.c0
      have q1 := HG2.out.c1
      have q2 := HG2.out.c2
      have q3 := HG2.out.c3
      have q4 := HG2.out.c4
      have q5 := HG2.out.c5
      have q6 := HG2.out.c6
      have q7 := HG2.out.c7
      have q8 := HG2.out.c8
      have qf := HG2.out.fr
      go_upto_region 5 with fail
      have hN := NB.all HG2.out (.int .i64 (Im.num xs 5 1)) (.int .i64 (Im.num xs 6 1)) (.int .i64 (Im.num xs 7 1)) (.slice Ad ld cd) (.slice Af lf cf) (.slice none 0 0) (.int .i64 s) (.int .i64 0) (.int .i64 0)
      have hR := rd9 (g := v.heap.size) v2 (.int .i64 (Im.num xs 5 1)) (.int .i64 (Im.num xs 6 1)) (.int .i64 (Im.num xs 7 1)) (.slice Ad ld cd) (.slice Af lf cf) (.slice none 0 0) (.int .i64 s) (.int .i64 0) (.int .i64 0)
      clear q0 q1 q2 q3 q4 q5 q6 q7 q8 qf
      revert hN hR
      generalize (((((((((v2.setCell ⟨v.heap.size, 0, none⟩ (.int .i64 (Im.num xs 5 1))).setCell ⟨v.heap.size, 1, none⟩ (.int .i64 (Im.num xs 6 1))).setCell ⟨v.heap.size, 2, none⟩ (.int .i64 (Im.num xs 7 1))).setCell ⟨v.heap.size, 3, none⟩ (.slice Ad ld cd)).setCell ⟨v.heap.size, 4, none⟩ (.slice Af lf cf)).setCell ⟨v.heap.size, 5, none⟩ (.slice none 0 0)).setCell ⟨v.heap.size, 6, none⟩ (.int .i64 s)).setCell ⟨v.heap.size, 7, none⟩ (.int .i64 0)).setCell ⟨v.heap.size, 8, none⟩ (.int .i64 0)) = U
      intro hN hR
      have HN := Lib.hid hN
      have HR := Lib.hid hR
      have q7 := hN.c7
      have q6 := hN.c6
      clear hN hR
      go_wp2
      clear q6 q7
      go_loopw [8, 9, 10, 11] (fun j p e a wr => ∃ k : Nat, k ≤ m ∧ j = .int .i64 k ∧ s + 12 * k ≤ len ∧ (∀ q, q < k → Im.iBad xs s q = false) ∧ Rd v.heap.size v2 wr ∧ ∃ A' c', NB wr v.heap.size (.int .i64 (Im.num xs 5 1)) (.int .i64 (Im.num xs 6 1)) (.int .i64 (Im.num xs 7 1)) (.slice Ad ld cd) (.slice Af lf cf) (.slice A' k c') (.int .i64 (((s + 12 * k : Nat) : Int))) (.int .i64 0) (.int .i64 0) ∧ wr.ownsRow v2.heap.size 43 5 (.slice A' k c') k (((List.range k).map (Im.insAt xs s)).flatMap cells5)) (fun j _ _ _ _ => m - (intOf j).toNat)
      case atStart => exact ⟨0, by omega, rfl, by omega, (fun q hq => by omega), HR.out, none, 0, by simpa using HN.out, ⟨rfl, .inl ⟨rfl, rfl⟩⟩⟩
      case round =>
        obtain ⟨k, hk, rfl, hq0, hall, hrd, A', c', hng, hown⟩ := hrel
        obtain ⟨q, hq⟩ : ∃ q, s + 12 * k = q := ⟨_, rfl⟩
        rw [hq] at hq0 hng
        have HQ := Lib.hid hq
        have HALL := Lib.hid hall
        have HRr := Lib.hid hrd
        have HNr := Lib.hid hng
        have HO := Lib.hid hown
        have HPr := Lib.hid (show PB wr w.heap.size (.int .i64 0) (.int .i64 0) (.int .i64 0) (.slice none 0 0) (.slice none 0 0) (.slice none 0 0) from (hrd.block _ HP2.out.lt (Nat.ne_of_lt hlt)).trans HP2.out)
        have HBr := Lib.hid (show Below w.heap.size w wr from HB2.out.trans (hrd.below (Nat.le_of_lt hlt) HB2.out.size))
        have hvz : v.heap.size < v2.heap.size := HG2.out.lt
        have hwz : v2.heap.size ≤ wr.heap.size := hrd.size
        have q6 := HNr.out.c6
        clear hall hrd hng hown hq HN HR
        by_cases hkm : k < m
        · have hkm' : (k : Int) < m := by omega
          by_cases hsh : len < q + 12
          · have HD1 := Lib.hid (show Im.dE xs = (1, (len : Int)) by
              rw [HD.out]; unfold Im.t12
              rw [HS.out, HM.out, Im.dI_at hkm (by unfold Im.iBad; rw [decide_eq_true (by rw [HLEN.out, HQ.out]; exact hsh)]; rfl) HALL.out, if_pos (by rw [HLEN.out, HQ.out]; exact hsh), HLEN.out])
            have hqi : (q : Int) ≤ len := by omega
            have hqc : (len : Int) ≤ cap := by omega
            by_cases hcq : cap = q
            · obtain rfl : q = cap := hcq.symm
              clear hcq
              go_wp2_with fail
              refine (rget_short _ _ _ _ (by omega)).mono ?_
              rintro e v3 ⟨rfl, hb3⟩
              have HN3 := Lib.hid (HNr.out.keep hb3)
              have HP3 := Lib.hid (HPr.out.keep hb3)
              have HB3 := Lib.hid (HBr.out.trans (hb3.mono HBr.out.size))
              clear hb3 q6
              go_upto_region 12 with fail
              have hN := NB.keep HN3.out (Below.box v3 (.cells #[.int .i64 0, .int .i64 0, .int .i64 0, .int .i64 0, .int .u64 0] 43))
              have hP := PB.keep HP3.out (Below.box v3 (.cells #[.int .i64 0, .int .i64 0, .int .i64 0, .int .i64 0, .int .u64 0] 43))
              have hB := HB3.out.alloc HB3.out.size (.cells #[.int .i64 0, .int .i64 0, .int .i64 0, .int .i64 0, .int .u64 0] 43)
              revert hN hP hB
              generalize v3.alloc (.cells #[.int .i64 0, .int .i64 0, .int .i64 0, .int .i64 0, .int .u64 0] 43) = U
              intro hN hP hB
              have q6 := hN.c6
              have HP := Lib.hid hP
              have HB := Lib.hid hB
              clear hN hP hB
              have p0 := HP.out.c0
              have p1 := HP.out.c1
              have p2 := HP.out.c2
              have p3 := HP.out.c3
              have p4 := HP.out.c4
              have p5 := HP.out.c5
              have pf := HP.out.fr
              have n3 : ¬ w.heap.size = v.heap.size := by omega
              have n4 : ¬ v.heap.size = w.heap.size := by omega
              have hsum : IntKind.i64.wrap ((q : Int) + ((len - q : Nat) : Int)) = len := by rw [IntKind.wrap_i64]; omega
              go_wp2
              go_region
              go_wp2
              have hall := (((((HP.out.s0 (.int .i64 0)).s1 (.int .i64 0)).s2 (.int .i64 0)).s3 (.slice none 0 0)).s4 (.slice none 0 0)).s5 (.slice none 0 0)
              have hbel := set6_below HB.out (Nat.le_refl w.heap.size) (.int .i64 0) (.int .i64 0) (.int .i64 0) (.slice none 0 0) (.slice none 0 0) (.slice none 0 0)
              clear p0 p1 p2 p3 p4 p5 pf HP HB
              revert hall hbel
              generalize ((((((U.setCell ⟨w.heap.size, 0, none⟩ (.int .i64 0)).setCell ⟨w.heap.size, 1, none⟩ (.int .i64 0)).setCell ⟨w.heap.size, 2, none⟩ (.int .i64 0)).setCell ⟨w.heap.size, 3, none⟩ (.slice none 0 0)).setCell ⟨w.heap.size, 4, none⟩ (.slice none 0 0)).setCell ⟨w.heap.size, 5, none⟩ (.slice none 0 0)) = W'
              intro hall hbel
              have t0 := hall.c0
              have t1 := hall.c1
              have t2 := hall.c2
              have t3 := hall.c3
              have t4 := hall.c4
              have t5 := hall.c5
              have tl : ¬ w.heap.size = W'.heap.size := Nat.ne_of_lt hall.lt
              refine bodyPost_ret (v := .tuple #[.agg #[.int .i64 0, .int .i64 0, .int .i64 0, .slice none 0 0, .slice none 0 0, .slice none 0 0], .int .i64 1, .int .i64 len]) (by simp [results, Tryd.results16, go_sem, t0, t1, t2, t3, t4, t5, tl] <;> omega) rfl ⟨by first | exact hbel.drew | exact hbel | exact (hbel.alloc (Nat.le_of_lt hall.lt) _).drew | exact hbel.alloc (Nat.le_of_lt hall.lt) _, .inl ⟨1, len, HD1.out, by decide, rfl⟩⟩
            · go_wp2_with fail
              refine (rget_short _ _ _ _ (by omega)).mono ?_
              rintro e v3 ⟨rfl, hb3⟩
              have HN3 := Lib.hid (HNr.out.keep hb3)
              have HP3 := Lib.hid (HPr.out.keep hb3)
              have HB3 := Lib.hid (HBr.out.trans (hb3.mono HBr.out.size))
              clear hb3 q6
              go_upto_region 12 with fail
              have hN := NB.keep HN3.out (Below.box v3 (.cells #[.int .i64 0, .int .i64 0, .int .i64 0, .int .i64 0, .int .u64 0] 43))
              have hP := PB.keep HP3.out (Below.box v3 (.cells #[.int .i64 0, .int .i64 0, .int .i64 0, .int .i64 0, .int .u64 0] 43))
              have hB := HB3.out.alloc HB3.out.size (.cells #[.int .i64 0, .int .i64 0, .int .i64 0, .int .i64 0, .int .u64 0] 43)
              revert hN hP hB
              generalize v3.alloc (.cells #[.int .i64 0, .int .i64 0, .int .i64 0, .int .i64 0, .int .u64 0] 43) = U
              intro hN hP hB
              have q6 := hN.c6
              have HP := Lib.hid hP
              have HB := Lib.hid hB
              clear hN hP hB
              have p0 := HP.out.c0
              have p1 := HP.out.c1
              have p2 := HP.out.c2
              have p3 := HP.out.c3
              have p4 := HP.out.c4
              have p5 := HP.out.c5
              have pf := HP.out.fr
              have n3 : ¬ w.heap.size = v.heap.size := by omega
              have n4 : ¬ v.heap.size = w.heap.size := by omega
              have hsum : IntKind.i64.wrap ((q : Int) + ((len - q : Nat) : Int)) = len := by rw [IntKind.wrap_i64]; omega
              go_wp2
              go_region
              go_wp2
              have hall := (((((HP.out.s0 (.int .i64 0)).s1 (.int .i64 0)).s2 (.int .i64 0)).s3 (.slice none 0 0)).s4 (.slice none 0 0)).s5 (.slice none 0 0)
              have hbel := set6_below HB.out (Nat.le_refl w.heap.size) (.int .i64 0) (.int .i64 0) (.int .i64 0) (.slice none 0 0) (.slice none 0 0) (.slice none 0 0)
              clear p0 p1 p2 p3 p4 p5 pf HP HB
              revert hall hbel
              generalize ((((((U.setCell ⟨w.heap.size, 0, none⟩ (.int .i64 0)).setCell ⟨w.heap.size, 1, none⟩ (.int .i64 0)).setCell ⟨w.heap.size, 2, none⟩ (.int .i64 0)).setCell ⟨w.heap.size, 3, none⟩ (.slice none 0 0)).setCell ⟨w.heap.size, 4, none⟩ (.slice none 0 0)).setCell ⟨w.heap.size, 5, none⟩ (.slice none 0 0)) = W'
              intro hall hbel
              have t0 := hall.c0
              have t1 := hall.c1
              have t2 := hall.c2
              have t3 := hall.c3
              have t4 := hall.c4
              have t5 := hall.c5
              have tl : ¬ w.heap.size = W'.heap.size := Nat.ne_of_lt hall.lt
              refine bodyPost_ret (v := .tuple #[.agg #[.int .i64 0, .int .i64 0, .int .i64 0, .slice none 0 0, .slice none 0 0, .slice none 0 0], .int .i64 1, .int .i64 len]) (by simp [results, Tryd.results16, go_sem, t0, t1, t2, t3, t4, t5, tl] <;> omega) rfl ⟨by first | exact hbel.drew | exact hbel | exact (hbel.alloc (Nat.le_of_lt hall.lt) _).drew | exact hbel.alloc (Nat.le_of_lt hall.lt) _, .inl ⟨1, len, HD1.out, by decide, rfl⟩⟩
          · have hcq : ¬ cap = q := by omega
            have hqi : (q : Int) ≤ len := by omega
            have hqc : (len : Int) ≤ cap := by omega
            have hIns : Im.insAt xs s k = Im.ins (xs.drop q) := by unfold Im.insAt; rw [HQ.out]
            obtain ⟨⟨op, x1, x2, x3, x4⟩, hI⟩ : ∃ I, Im.insAt xs s k = I := ⟨_, rfl⟩
            have HI := Lib.hid hI
            rw [hI] at hIns
            unfold Im.ins at hIns
            injection hIns with g0 g1 g2 g3 g4
            have HGL := rget_list b (o + q) (len - q) (cap - q) (xs.drop q) wr (by omega) (by rw [List.length_drop, HLEN.out]; omega) (Byts.from (Byts.below HBY.out HBr.out hbw)) (Im.isB_drop HB8.out q)
            rw [Cd.gotL, ← g0, ← g1, ← g2, ← g3, ← g4] at HGL
            clear g0 g1 g2 g3 g4 hI
            have hb5 : Im.bad5 (Im.insAt xs s k) = Cd.bad op x1 x2 x3 x4 := by rw [HI.out]; rfl
            have hib : Im.iBad xs s k = decide (Cd.bad op x1 x2 x3 x4 ≠ -1) := by
              unfold Im.iBad
              rw [decide_eq_false (by rw [HLEN.out, HQ.out]; exact hsh), hb5]; rfl
            by_cases hbad : Cd.bad op x1 x2 x3 x4 = -1
            · rw [Cd.got, if_pos hbad] at HGL
              have HG3 := Lib.hid HGL
              have HIB := Lib.hid (show Im.iBad xs s k = false by rw [hib]; simp [hbad])
              clear HGL hb5 hib hbad
              go_wp2_with fail
              refine HG3.out.mono ?_
              rintro e v3 ⟨rfl, hb3⟩
              have HN3 := Lib.hid (HNr.out.keep hb3)
              have HO3 := Lib.hid (own_below HO.out hb3)
              have HR3 := Lib.hid (HRr.out.trans (Rd.of_below hb3))
              have hz3 : v2.heap.size ≤ v3.heap.size := Nat.le_trans hwz hb3.size
              clear hb3 q6
              go_upto_region 14 with fail
              have hN := NB.keep HN3.out (Below.box v3 (.cells #[.int .i64 op, .int .i64 x1, .int .i64 x2, .int .i64 x3, .int .u64 x4] 43))
              have hOw := HO3.out.alloc (.cells #[.int .i64 op, .int .i64 x1, .int .i64 x2, .int .i64 x3, .int .u64 x4] 43)
              have hR := HR3.out.trans (Rd.of_below (Below.box v3 (.cells #[.int .i64 op, .int .i64 x1, .int .i64 x2, .int .i64 x3, .int .u64 x4] 43)))
              have hz4 : v2.heap.size ≤ (v3.alloc (.cells #[.int .i64 op, .int .i64 x1, .int .i64 x2, .int .i64 x3, .int .u64 x4] 43)).heap.size := by simp; omega
              have d0 : (v3.alloc (.cells #[.int .i64 op, .int .i64 x1, .int .i64 x2, .int .i64 x3, .int .u64 x4] 43)).cell? ⟨v3.heap.size, 0, none⟩ = some (.int .i64 op) := by simp
              have d1 : (v3.alloc (.cells #[.int .i64 op, .int .i64 x1, .int .i64 x2, .int .i64 x3, .int .u64 x4] 43)).cell? ⟨v3.heap.size, 1, none⟩ = some (.int .i64 x1) := by simp
              have d2 : (v3.alloc (.cells #[.int .i64 op, .int .i64 x1, .int .i64 x2, .int .i64 x3, .int .u64 x4] 43)).cell? ⟨v3.heap.size, 2, none⟩ = some (.int .i64 x2) := by simp
              have d3 : (v3.alloc (.cells #[.int .i64 op, .int .i64 x1, .int .i64 x2, .int .i64 x3, .int .u64 x4] 43)).cell? ⟨v3.heap.size, 3, none⟩ = some (.int .i64 x3) := by simp
              have d4 : (v3.alloc (.cells #[.int .i64 op, .int .i64 x1, .int .i64 x2, .int .i64 x3, .int .u64 x4] 43)).cell? ⟨v3.heap.size, 4, none⟩ = some (.int .u64 x4) := by simp
              revert hN hOw hR hz4 d0 d1 d2 d3 d4
              generalize v3.alloc (.cells #[.int .i64 op, .int .i64 x1, .int .i64 x2, .int .i64 x3, .int .u64 x4] 43) = U
              intro hN hOw hR hz4 d0 d1 d2 d3 d4
              have q5 := hN.c5
              have q6 := hN.c6
              have HN := Lib.hid hN
              have HOw := Lib.hid hOw
              have HR := Lib.hid hR
              clear hN hOw hR
              go_wp2_with (
                at_builtin
                refine wpList_apS (w := U.alloc (.cells #[.int .i64 op, .int .i64 x1, .int .i64 x2, .int .i64 x3, .int .u64 x4] 43)) rfl (.tmp 58) (.tmp 60) _ rfl v2.heap.size 43 i0 _ 5 40 Tryd.underlying24 hi0 hz0 hz1 hz2 rfl (by omega) (.slice A' k c') k _ rfl
                  (HOw.out.alloc _) ⟨U.heap.size, 0, none⟩ 1 1 [.int .i64 op, .int .i64 x1, .int .i64 x2, .int .i64 x3, .int .u64 x4] rfl rfl (news5 U op x1 x2 x3 x4) (one5 op x1 x2 x3 x4) (by simp only [maxLen]; omega) (by omega) (by simp; omega) (k + 1) (((List.range (k + 1)).map (Im.insAt xs s)).flatMap cells5) rfl (by rw [ins_take, HI.out]; rfl) ?_
                intro A4 cap4 w4 hown4 hb4
                have hb5 : Below v2.heap.size U w4 := ((Below.refl _ _).alloc hz4 _).trans hb4
                have HG4 := Lib.hid (show NB w4 v.heap.size (.int .i64 (Im.num xs 5 1)) (.int .i64 (Im.num xs 6 1)) (.int .i64 (Im.num xs 7 1)) (.slice Ad ld cd) (.slice Af lf cf) (.slice A' k c') (.int .i64 ((q : Int))) (.int .i64 0) (.int .i64 0) from (hb5.block v.heap.size hvz).trans HN.out)
                have HR4 := Lib.hid (HR.out.far hb5)
                have HO4 := Lib.hid hown4
                have u5 := HG4.out.c5
                have u6 := HG4.out.c6
                have uf := HG4.out.fr
                clear hown4 hb4 hb5 q5 q6 d0 d1 d2 d3 d4)
              go_roundw
              case rel =>
                refine ⟨k + 1, by omega, by go_num, by have := HQ.out; omega, (fun j hj => ?_), (HR4.out.trans (Rd.set _ _ _)).trans (Rd.set _ _ _), A4, cap4, ?_, own_set (own_set HO4.out (p := ⟨v.heap.size, 5, none⟩) hvz _) (p := ⟨v.heap.size, 6, none⟩) hvz _⟩
                · rcases Nat.lt_succ_iff_lt_or_eq.1 hj with h | h
                  · exact HALL.out j h
                  · rw [h]; exact HIB.out
                · rw [show ((s + 12 * (k + 1) : Nat) : Int) = (q : Int) + 12 by have := HQ.out; omega]
                  exact NB.s6 (NB.s5 HG4.out _) _
              case measure => simp [intOf]; omega
            · rw [Cd.got, if_neg hbad] at HGL
              have hPb := pl_bd op x1 x2 x3 x4
              have hEn := Im.er_ne hbad
              obtain ⟨E, hE⟩ : ∃ E, Cd.er (Cd.bad op x1 x2 x3 x4) = E := ⟨_, rfl⟩
              obtain ⟨P, hP⟩ : ∃ P, Cd.pl (Cd.bad op x1 x2 x3 x4) = P := ⟨_, rfl⟩
              rw [hE, hP] at HGL
              rw [hP] at hPb
              rw [hE] at hEn
              have HG3 := Lib.hid HGL
              have HD1 := Lib.hid (show Im.dE xs = (E, (q : Int) + P) by
                rw [HD.out]; unfold Im.t12
                rw [HS.out, HM.out, Im.dI_at hkm (by rw [hib]; exact decide_eq_true hbad) HALL.out, if_neg (by rw [HLEN.out, HQ.out]; exact hsh), hb5, hE, hP, HQ.out])
              have HEN := Lib.hid hEn
              have hE1 : (E != 0) = true := by simpa using hEn
              clear HGL hb5 hib hbad hE hP hEn
              go_wp2_with fail
              refine HG3.out.mono ?_
              rintro e v3 ⟨rfl, hb3⟩
              have HN3 := Lib.hid (HNr.out.keep hb3)
              have HP3 := Lib.hid (HPr.out.keep hb3)
              have HB3 := Lib.hid (HBr.out.trans (hb3.mono HBr.out.size))
              clear hb3 q6
              go_upto_region 12 with fail
              have hN := NB.keep HN3.out (Below.box v3 (.cells #[.int .i64 0, .int .i64 0, .int .i64 0, .int .i64 0, .int .u64 0] 43))
              have hP := PB.keep HP3.out (Below.box v3 (.cells #[.int .i64 0, .int .i64 0, .int .i64 0, .int .i64 0, .int .u64 0] 43))
              have hB := HB3.out.alloc HB3.out.size (.cells #[.int .i64 0, .int .i64 0, .int .i64 0, .int .i64 0, .int .u64 0] 43)
              revert hN hP hB
              generalize v3.alloc (.cells #[.int .i64 0, .int .i64 0, .int .i64 0, .int .i64 0, .int .u64 0] 43) = U
              intro hN hP hB
              have q6 := hN.c6
              have HP := Lib.hid hP
              have HB := Lib.hid hB
              clear hN hP hB
              have p0 := HP.out.c0
              have p1 := HP.out.c1
              have p2 := HP.out.c2
              have p3 := HP.out.c3
              have p4 := HP.out.c4
              have p5 := HP.out.c5
              have pf := HP.out.fr
              have n3 : ¬ w.heap.size = v.heap.size := by omega
              have n4 : ¬ v.heap.size = w.heap.size := by omega
              have hsum : IntKind.i64.wrap ((q : Int) + P) = (q : Int) + P := by rw [IntKind.wrap_i64]; omega
              go_wp2
              go_region
              go_wp2
              have hall := (((((HP.out.s0 (.int .i64 0)).s1 (.int .i64 0)).s2 (.int .i64 0)).s3 (.slice none 0 0)).s4 (.slice none 0 0)).s5 (.slice none 0 0)
              have hbel := set6_below HB.out (Nat.le_refl w.heap.size) (.int .i64 0) (.int .i64 0) (.int .i64 0) (.slice none 0 0) (.slice none 0 0) (.slice none 0 0)
              clear p0 p1 p2 p3 p4 p5 pf HP HB
              revert hall hbel
              generalize ((((((U.setCell ⟨w.heap.size, 0, none⟩ (.int .i64 0)).setCell ⟨w.heap.size, 1, none⟩ (.int .i64 0)).setCell ⟨w.heap.size, 2, none⟩ (.int .i64 0)).setCell ⟨w.heap.size, 3, none⟩ (.slice none 0 0)).setCell ⟨w.heap.size, 4, none⟩ (.slice none 0 0)).setCell ⟨w.heap.size, 5, none⟩ (.slice none 0 0)) = W'
              intro hall hbel
              have t0 := hall.c0
              have t1 := hall.c1
              have t2 := hall.c2
              have t3 := hall.c3
              have t4 := hall.c4
              have t5 := hall.c5
              have tl : ¬ w.heap.size = W'.heap.size := Nat.ne_of_lt hall.lt
              refine bodyPost_ret (v := .tuple #[.agg #[.int .i64 0, .int .i64 0, .int .i64 0, .slice none 0 0, .slice none 0 0, .slice none 0 0], .int .i64 E, .int .i64 ((q : Int) + P)]) (by simp [results, Tryd.results16, go_sem, t0, t1, t2, t3, t4, t5, tl] <;> omega) rfl ⟨by first | exact hbel.drew | exact hbel | exact (hbel.alloc (Nat.le_of_lt hall.lt) _).drew | exact hbel.alloc (Nat.le_of_lt hall.lt) _, .inl ⟨E, ((q : Int) + P), HD1.out, HEN.out, rfl⟩⟩
        · obtain rfl : k = m := by omega
          have hkm' : ¬ (k : Int) < k := by omega
          have HDT := Lib.hid (show Im.dE xs = Im.dG xs by rw [HD.out]; unfold Im.t12; rw [HS.out, HM.out, Im.dI_ok HALL.out])
          by_cases hmo : q < len
          · have HD1 := Lib.hid (show Im.dE xs = (6, (q : Int)) by rw [HDT.out]; unfold Im.dG; rw [HS.out, HM.out, HQ.out, HLEN.out, if_pos hmo])
            have hmo' : (q : Int) < len := by omega
            have HP := HPr
            have HB := HBr
            have p0 := HP.out.c0
            have p1 := HP.out.c1
            have p2 := HP.out.c2
            have p3 := HP.out.c3
            have p4 := HP.out.c4
            have p5 := HP.out.c5
            have pf := HP.out.fr
            have n3 : ¬ w.heap.size = v.heap.size := by omega
            have n4 : ¬ v.heap.size = w.heap.size := by omega
            go_wp2
            go_region
            go_wp2
            have hall := (((((HP.out.s0 (.int .i64 0)).s1 (.int .i64 0)).s2 (.int .i64 0)).s3 (.slice none 0 0)).s4 (.slice none 0 0)).s5 (.slice none 0 0)
            have hbel := set6_below HB.out (Nat.le_refl w.heap.size) (.int .i64 0) (.int .i64 0) (.int .i64 0) (.slice none 0 0) (.slice none 0 0) (.slice none 0 0)
            clear p0 p1 p2 p3 p4 p5 pf HP HB
            revert hall hbel
            generalize ((((((wr.setCell ⟨w.heap.size, 0, none⟩ (.int .i64 0)).setCell ⟨w.heap.size, 1, none⟩ (.int .i64 0)).setCell ⟨w.heap.size, 2, none⟩ (.int .i64 0)).setCell ⟨w.heap.size, 3, none⟩ (.slice none 0 0)).setCell ⟨w.heap.size, 4, none⟩ (.slice none 0 0)).setCell ⟨w.heap.size, 5, none⟩ (.slice none 0 0)) = W'
            intro hall hbel
            have t0 := hall.c0
            have t1 := hall.c1
            have t2 := hall.c2
            have t3 := hall.c3
            have t4 := hall.c4
            have t5 := hall.c5
            have tl : ¬ w.heap.size = W'.heap.size := Nat.ne_of_lt hall.lt
            refine bodyPost_ret (v := .tuple #[.agg #[.int .i64 0, .int .i64 0, .int .i64 0, .slice none 0 0, .slice none 0 0, .slice none 0 0], .int .i64 6, .int .i64 q]) (by simp [results, Tryd.results16, go_sem, t0, t1, t2, t3, t4, t5, tl] <;> omega) rfl ⟨by first | exact hbel.drew | exact hbel | exact (hbel.alloc (Nat.le_of_lt hall.lt) _).drew | exact hbel.alloc (Nat.le_of_lt hall.lt) _, .inl ⟨6, q, HD1.out, by decide, rfl⟩⟩
          · have hmo' : ¬ (q : Int) < len := by omega
            have hIm : ImAt wr Ad ld cd Af lf cf A' k c' (Im.pic xs) := by
              refine ⟨(ByR.rd (g := v.heap.size) ⟨HDS2.out, fun h0 b1 o1 s1 e1 => Nat.ne_of_lt (HDB.out b1 o1 s1 h0 e1)⟩ HRr.out).sl, HFS.out.rd HRr.out (fun b1 o1 s1 e1 => Nat.ne_of_gt (HFF.out b1 o1 s1 e1)), ?_⟩
              have h := CoSl.of_own HO.out (fun i => insAt_rng HB8.out s k i)
              show CoSl wr A' k c' ((List.range (Im.nk xs)).map (Im.insAt xs (Im.sAt xs)))
              rw [HS.out, HM.out]
              exact h
            have hlf : lf = Im.nf xs := by
              have h := HFS.out.hlen
              unfold Im.fns at h
              rw [List.length_map, List.length_range] at h
              exact h.symm
            have hPL : Im.Places (Im.pic xs).fs k := by have h := HPL.out; rw [HM.out] at h; exact h
            have HST := Lib.hid (rstray_any (Im.num xs 5 1) (Im.num xs 6 1) (Im.num xs 7 1) Ad ld cd Af lf cf A' k c' (Im.pic xs) wr hIm hPL (by rw [hlf]; exact f1) k1 (by omega) (by rw [hlf]; omega))
            have HIM := Lib.hid hIm
            have q0 := HNr.out.c0
            have q1 := HNr.out.c1
            have q2 := HNr.out.c2
            have q3 := HNr.out.c3
            have q4 := HNr.out.c4
            have q5 := HNr.out.c5
            have hcl : (Im.pic xs).cs.length = k := by show ((List.range (Im.nk xs)).map _).length = k; rw [List.length_map, List.length_range, HM.out]
            have HCL := Lib.hid hcl
            have HG0 := Lib.hid (show Im.dE xs = if Im.flB (Im.pic xs).fs (Im.pic xs).cs = true then (7, (s : Int) + 12 * Im.flI (Im.pic xs).fs (Im.pic xs).cs) else (0, 0) by
              rw [HDT.out]; unfold Im.dG; rw [HS.out, HM.out, HQ.out, HLEN.out, if_neg hmo])
            clear hIm hlf hPL hcl
            by_cases hfl : Im.stray (Im.pic xs).fs (Im.pic xs).cs < (Im.pic xs).cs.length
            · obtain ⟨t, ht⟩ : ∃ t, Im.stray (Im.pic xs).fs (Im.pic xs).cs = t := ⟨_, rfl⟩
              have hst : Im.st (Im.pic xs).fs (Im.pic xs).cs = (t : Int) := by unfold Im.st; rw [if_pos hfl, ht]
              have HD1 := Lib.hid (show Im.dE xs = (7, (s : Int) + 12 * t) by
                rw [HG0.out, if_pos (by unfold Im.flB; exact decide_eq_true hfl)]
                unfold Im.flI; rw [if_pos hfl, ht])
              rw [hst] at HST
              have htk : t < k := by have := HCL.out; omega
              have ht0 : (0 : Int) ≤ t := by omega
              clear hst ht hfl
              go_wp2_with fail
              refine HST.out.mono ?_
              rintro e U ⟨rfl, hbu⟩
              have HP := Lib.hid (HPr.out.keep hbu)
              have HB := Lib.hid (HBr.out.trans (hbu.mono HBr.out.size))
              clear hbu
              have p0 := HP.out.c0
              have p1 := HP.out.c1
              have p2 := HP.out.c2
              have p3 := HP.out.c3
              have p4 := HP.out.c4
              have p5 := HP.out.c5
              have pf := HP.out.fr
              go_wp2
              have hall := (((((HP.out.s0 (.int .i64 0)).s1 (.int .i64 0)).s2 (.int .i64 0)).s3 (.slice none 0 0)).s4 (.slice none 0 0)).s5 (.slice none 0 0)
              have hbel := set6_below HB.out (Nat.le_refl w.heap.size) (.int .i64 0) (.int .i64 0) (.int .i64 0) (.slice none 0 0) (.slice none 0 0) (.slice none 0 0)
              clear p0 p1 p2 p3 p4 p5 pf HP HB
              revert hall hbel
              generalize ((((((U.setCell ⟨w.heap.size, 0, none⟩ (.int .i64 0)).setCell ⟨w.heap.size, 1, none⟩ (.int .i64 0)).setCell ⟨w.heap.size, 2, none⟩ (.int .i64 0)).setCell ⟨w.heap.size, 3, none⟩ (.slice none 0 0)).setCell ⟨w.heap.size, 4, none⟩ (.slice none 0 0)).setCell ⟨w.heap.size, 5, none⟩ (.slice none 0 0)) = W'
              intro hall hbel
              have t0 := hall.c0
              have t1 := hall.c1
              have t2 := hall.c2
              have t3 := hall.c3
              have t4 := hall.c4
              have t5 := hall.c5
              have tl : ¬ w.heap.size = W'.heap.size := Nat.ne_of_lt hall.lt
              refine bodyPost_ret (v := .tuple #[.agg #[.int .i64 0, .int .i64 0, .int .i64 0, .slice none 0 0, .slice none 0 0, .slice none 0 0], .int .i64 7, .int .i64 ((s : Int) + 12 * t)]) (by simp [results, Tryd.results16, go_sem, t0, t1, t2, t3, t4, t5, tl] <;> omega) rfl ⟨by first | exact hbel.drew | exact hbel | exact (hbel.alloc (Nat.le_of_lt hall.lt) _).drew | exact hbel.alloc (Nat.le_of_lt hall.lt) _, .inl ⟨7, ((s : Int) + 12 * t), HD1.out, by decide, rfl⟩⟩
            · have hst : Im.st (Im.pic xs).fs (Im.pic xs).cs = -1 := by unfold Im.st; rw [if_neg hfl]
              have HD1 := Lib.hid (show Im.dE xs = (0, 0) by
                rw [HG0.out, if_neg (by unfold Im.flB; simp only [decide_eq_true_eq]; exact hfl)])
              rw [hst] at HST
              clear hst hfl
              go_wp2_with fail
              refine HST.out.mono ?_
              rintro e U ⟨rfl, hbu⟩
              have HP := Lib.hid (HPr.out.keep hbu)
              have HB := Lib.hid (HBr.out.trans (hbu.mono HBr.out.size))
              have HNu := Lib.hid (HNr.out.keep hbu)
              have HIu := Lib.hid (HIM.out.below hbu)
              clear hbu q0 q1 q2 q3 q4 q5 q6
              have q0 := HNu.out.c0
              have q1 := HNu.out.c1
              have q2 := HNu.out.c2
              have q3 := HNu.out.c3
              have q4 := HNu.out.c4
              have q5 := HNu.out.c5
              have p0 := HP.out.c0
              have p1 := HP.out.c1
              have p2 := HP.out.c2
              have p3 := HP.out.c3
              have p4 := HP.out.c4
              have p5 := HP.out.c5
              have pf := HP.out.fr
              go_wp2
              have hall := (((((HP.out.s0 (.int .i64 (Im.num xs 5 1))).s1 (.int .i64 (Im.num xs 6 1))).s2 (.int .i64 (Im.num xs 7 1))).s3 (.slice Ad ld cd)).s4 (.slice Af lf cf)).s5 (.slice A' k c')
              have hbel := set6_below HB.out (Nat.le_refl w.heap.size) (.int .i64 (Im.num xs 5 1)) (.int .i64 (Im.num xs 6 1)) (.int .i64 (Im.num xs 7 1)) (.slice Ad ld cd) (.slice Af lf cf) (.slice A' k c')
              have hr6 := rd6 (g := w.heap.size) U (.int .i64 (Im.num xs 5 1)) (.int .i64 (Im.num xs 6 1)) (.int .i64 (Im.num xs 7 1)) (.slice Ad ld cd) (.slice Af lf cf) (.slice A' k c')
              clear p0 p1 p2 p3 p4 p5 pf q0 q1 q2 q3 q4 q5
              revert hall hbel hr6
              generalize ((((((U.setCell ⟨w.heap.size, 0, none⟩ (.int .i64 (Im.num xs 5 1))).setCell ⟨w.heap.size, 1, none⟩ (.int .i64 (Im.num xs 6 1))).setCell ⟨w.heap.size, 2, none⟩ (.int .i64 (Im.num xs 7 1))).setCell ⟨w.heap.size, 3, none⟩ (.slice Ad ld cd)).setCell ⟨w.heap.size, 4, none⟩ (.slice Af lf cf)).setCell ⟨w.heap.size, 5, none⟩ (.slice A' k c')) = W'
              intro hall hbel hr6
              have t0 := hall.c0
              have t1 := hall.c1
              have t2 := hall.c2
              have t3 := hall.c3
              have t4 := hall.c4
              have t5 := hall.c5
              refine bodyPost_ret (v := .tuple #[.agg #[.int .i64 (Im.num xs 5 1), .int .i64 (Im.num xs 6 1), .int .i64 (Im.num xs 7 1), .slice Ad ld cd, .slice Af lf cf, .slice A' k c'], .int .i64 0, .int .i64 0]) (by simp [results, Tryd.results16, go_sem, t0, t1, t2, t3, t4, t5]) rfl ⟨hbel, .inr ⟨HD1.out, Ad, ld, cd, Af, lf, cf, A', k, c', rfl, ?_⟩⟩
              exact HIu.out.move (M := w.heap.size + 1) hr6.size (fun b1 o1 s1 e1 => HFZ.out b1 o1 s1 e1) (fun b1 o1 s1 e1 => by have := HFF.out b1 o1 s1 e1; omega) (fun b1 o1 s1 e1 => by have := own_farS HO.out b1 o1 s1 e1; omega) (fun j h1 h2 => hr6.block j h2 (by omega))
end Go.Proofs.YtjadiijjahjjoaaDoor
