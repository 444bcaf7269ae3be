/-
  The reference's Run: what it refuses, and its loop.
  The reference's Run and Reach, whatever the image and the input.
  MachineRuns: the law's walk.
-/
import Derived.Test.YtfhnigfghfmolaaDoorGP
set_option linter.unusedSimpArgs false
set_option linter.unusedVariables false
namespace Go.Proofs.YtfhnigfghfmolaaDoor
set_option maxRecDepth 100000
open Go.RowKit

/-- A state of the loop in memory. -/
structure RgR (b0 g9 g10 : Nat) (v2 : World) (P : Im.Pic) (xs : List Int) (N q : Nat) (R : List Int × Mc.St × Int) (n : Nat) (pA : Option Addr) (pcap : Nat) (wr : World) (s : Mc.St) (path : List Int) (sA : Option Addr) (scap : Nat) (oA : Option Addr) (ocap : Nat) : Prop where
  hq : q ≤ N
  hgo : Mc.go P xs (N - q) s path = R
  hok : Mc.Ok P s
  hpl : path.length = q + 1
  hml : s.mm.length = n
  bel : Below v2.heap.size v2 wr
  r9 : wr.heap[g9]? = some (.cells (stC s (.slice sA n scap) (.slice oA s.op.length ocap)) 45 (0, 0))
  r10 : wr.heap[g10]? = some (.cells #[.slice pA (q + 1) pcap, .int .i64 0, .int .u64 0, .int .u64 0, .int .u64 0, .int .u64 0, .int .u64 0, .int .u64 0, .int .u64 0, .int .u64 0, .slice none 0 0] 32 (0, 0))
  om : wr.ownsRow b0 5 1 (.slice sA n scap) n (s.mm.map (Value.int .u8))
  oo : wr.ownsRow b0 3 1 (.slice oA s.op.length ocap) s.op.length (s.op.map (Value.int .i64))
  op : wr.ownsRow v2.heap.size 3 1 (.slice pA (q + 1) pcap) (q + 1) (path.map (Value.int .i64))
  dm : ∀ k, (Value.slice sA n scap).ownBlock = some k → k ≠ g9 ∧ k ≠ g10
  do_ : ∀ k, (Value.slice oA s.op.length ocap).ownBlock = some k → k ≠ g9 ∧ k ≠ g10
  dp : ∀ k, (Value.slice pA (q + 1) pcap).ownBlock = some k → k ≠ g9 ∧ k ≠ g10 ∧ (Value.slice sA n scap).ownBlock ≠ some k ∧ (Value.slice oA s.op.length ocap).ownBlock ≠ some k

theorem RgR.mem {b0 g9 g10 : Nat} {v2 : World} {P : Im.Pic} {xs : List Int} {N q : Nat} {R : List Int × Mc.St × Int} {n : Nat} {pA : Option Addr} {pcap : Nat} {wr : World} {s : Mc.St} {path : List Int} {sA : Option Addr} {scap : Nat} {oA : Option Addr} {ocap : Nat} (h : RgR b0 g9 g10 v2 P xs N q R n pA pcap wr s path sA scap oA ocap) {v5 : World} (hb0 : b0 ≤ wr.heap.size) (hb : Below wr.heap.size wr v5) {s1 : Mc.St} {mA' : Option Addr} {mcap' : Nat}
    (h1 : (mA' = sA ∧ mcap' = scap ∧ s1.mm = s.mm) ∨ v5.ownsRow wr.heap.size 5 1 (.slice mA' s1.mm.length mcap') s1.mm.length (s1.mm.map (Value.int .u8))) (hn : s1.mm.length = n) :
    v5.ownsRow b0 5 1 (.slice mA' n mcap') n (s1.mm.map (Value.int .u8)) ∧ (∀ k, (Value.slice mA' n mcap').ownBlock = some k → k ≠ g9 ∧ k ≠ g10) ∧ ∀ k, (Value.slice pA (q + 1) pcap).ownBlock = some k → (Value.slice mA' n mcap').ownBlock ≠ some k := by
  have l9 := (Array.getElem?_eq_some_iff.1 h.r9).1
  have l10 := (Array.getElem?_eq_some_iff.1 h.r10).1
  rcases h1 with ⟨rfl, rfl, e⟩ | h1
  · rw [e]
    exact ⟨own_below h.om hb, h.dm, fun k hk => (h.dp k hk).2.2.1⟩
  · rw [hn] at h1
    exact ⟨Joins.ownsRow_le h1 hb0, fun k hk => by have := (h1.lt k hk).1; omega, fun k hk e => by have := (h1.lt k e).1; have := (h.op.lt k hk).2; omega⟩
theorem RgR.open_ {b0 g9 g10 : Nat} {v2 : World} {P : Im.Pic} {xs : List Int} {N q : Nat} {R : List Int × Mc.St × Int} {n : Nat} {pA : Option Addr} {pcap : Nat} {wr : World} {s : Mc.St} {path : List Int} {sA : Option Addr} {scap : Nat} {oA : Option Addr} {ocap : Nat} (h : RgR b0 g9 g10 v2 P xs N q R n pA pcap wr s path sA scap oA ocap) {v5 : World} (hb0 : b0 ≤ wr.heap.size) (hb : Below wr.heap.size wr v5) {s1 : Mc.St} {oA' : Option Addr} {ocap' : Nat}
    (h1 : (oA' = oA ∧ ocap' = ocap ∧ s1.op = s.op) ∨ v5.ownsRow wr.heap.size 3 1 (.slice oA' s1.op.length ocap') s1.op.length (s1.op.map (Value.int .i64))) :
    v5.ownsRow b0 3 1 (.slice oA' s1.op.length ocap') s1.op.length (s1.op.map (Value.int .i64)) ∧ (∀ k, (Value.slice oA' s1.op.length ocap').ownBlock = some k → k ≠ g9 ∧ k ≠ g10) ∧ ∀ k, (Value.slice pA (q + 1) pcap).ownBlock = some k → (Value.slice oA' s1.op.length ocap').ownBlock ≠ some k := by
  have l9 := (Array.getElem?_eq_some_iff.1 h.r9).1
  have l10 := (Array.getElem?_eq_some_iff.1 h.r10).1
  rcases h1 with ⟨rfl, rfl, e⟩ | h1
  · rw [e]
    exact ⟨own_below h.oo hb, h.do_, fun k hk => (h.dp k hk).2.2.2⟩
  · exact ⟨Joins.ownsRow_le h1 hb0, fun k hk => by have := (h1.lt k hk).1; omega, fun k hk e => by have := (h1.lt k e).1; have := (h.op.lt k hk).2; omega⟩

set_option maxRecDepth 20000 in
set_option maxHeartbeats 12800000 in
theorem rrun_right (mem stk inp : Int) (Ad : Option Addr) (ld cd : Nat) (Af : Option Addr) (lf cf : Nat) (Ac : Option Addr) (lc cc : Nat) (Ai : Option Addr) (li ci : Nat) (P : Im.Pic) (xs : List Int) (steps : Int) (w : World) (HA : HdAt w ⟨mem, stk, inp, Ad, ld, cd, Af, lf, cf, Ac, lc, cc, Ai, li, ci, P, xs⟩) (hR : Mc.R P) (hl : (xs.length : Int) ≤ P.inp) (hlc : lc ≤ 1000000) (hlf : lf ≤ 1000000) (hld : ld ≤ 1000000) (hlM : li < 1000000) :
    Calls Tryd.prog 13 #[.agg #[.int .i64 mem, .int .i64 stk, .int .i64 inp, .slice Ad ld cd, .slice Af lf cf, .slice Ac lc cc], .slice Ai li ci, .int .i64 steps] w (RunA (Mc.answer P xs steps) w) := by
  have hCn := hR.cnt
  have ea : Mc.answer P xs steps = ((Mc.run P xs steps).1, (Mc.run P xs steps).2.2, (Mc.run P xs steps).2.1.rg, (Mc.run P xs steps).2.1.mm, 0) := by unfold Mc.answer; rw [if_neg (show ¬ Im.chk P ≠ 0 from fun h => h hR), if_neg (by omega)]
  rw [ea]
  obtain ⟨himg, he0, he1, he2, hinp⟩ := HA
  simp only at himg he0 he1 he2 hinp
  have hW : Mc.Wc P := himg.c.rng
  have hck : ∀ W, Below w.heap.size w W → Calls Tryd.prog 31 #[.agg #[.int .i64 mem, .int .i64 stk, .int .i64 inp, .slice Ad ld cd, .slice Af lf cf, .slice Ac lc cc]] W fun e w' => e = .returned (.int .i64 0) ∧ Below W.heap.size W w' := fun W hW' => by
    have := rcheck_any mem stk inp Ad ld cd Af lf cf Ac lc cc P W (himg.below hW') he0 he1 he2 hlc hlf hld
    rwa [show Im.chk P = 0 from hR] at this
  have hlen := hinp.hlen
  have hin : ¬ inp < (li : Int) := by omega
  have hok0 := Mc.mem0_ok hR himg.d.isB
  have hxs := hinp.isB
  have hxl : xs.length < 1000 := by have := hCn.2.2.1; omega
  obtain ⟨n, hn⟩ : ∃ n : Nat, mem = n := ⟨mem.toNat, by have := hCn.1; omega⟩
  have hnP : (P.mem : Int) = n := by omega
  have hdl := himg.d.hlen
  have hml0 : (Mc.mem0 P).length = n := by
    have := hCn.2.2.2.1
    unfold Mc.mem0
    simp
    omega
  have hst : ∀ W, Below w.heap.size w W → Calls Tryd.prog 23 #[.agg #[.int .i64 mem, .int .i64 stk, .int .i64 inp, .slice Ad ld cd, .slice Af lf cf, .slice Ac lc cc]] W fun e w' => ∃ A cap, e = .returned (.agg #[.int .i64 0, .int .u64 0, .int .u64 0, .int .u64 0, .int .u64 0, .int .u64 0, .int .u64 0, .int .u64 0, .int .u64 0, .slice A n cap, .slice none 0 0]) ∧ w'.ownsRow W.heap.size 5 1 (.slice A n cap) n ((Mc.mem0 P).map (Value.int .u8)) ∧ Below W.heap.size W w' := fun W hW' => by
    have h1 := hCn.1
    have h2 := hCn.2.2.2.1
    subst hn
    exact rstart_any n stk inp Ad ld cd Af lf cf Ac lc cc P W (himg.d.below hW') he0 (by omega) (by omega)
  have hsp : ∀ s, Mc.Ok P s → ∀ W mA mn mcap oA on ocap, Below w.heap.size w W → BySl W mA mn mcap s.mm → InSl W oA on ocap s.op → _ := fun s hok W mA mn mcap oA on ocap hW' hm hp' => rStep_any ⟨mem, stk, inp, Ad, ld, cd, Af, lf, cf, Ac, lc, cc, Ai, li, ci, P, xs⟩ s mA mn mcap oA on ocap W (HdAt.below ⟨himg, he0, he1, he2, hinp⟩ hW') hR hok hlM hm hp'
  have hN : ((Mc.most steps : Nat) : Int) = max (min steps 4096) 0 := by unfold Mc.most; omega
  have hRun : Mc.run P xs steps = Mc.go P xs (Mc.most steps) (Mc.start P) [0] := rfl
  generalize Mc.run P xs steps = R at *
  generalize Mc.most steps = N at *
  have HCK := Lib.hid hck
  have HST := Lib.hid hst
  have HSP := Lib.hid hsp
  have HN := Lib.hid hN
  have HRUN := Lib.hid hRun
  have HOK0 := Lib.hid hok0
  have HXS := Lib.hid (And.intro hxs hxl)
  have HWC := Lib.hid hW
  have HR := Lib.hid hR
  have HNP := Lib.hid hnP
  have HML0 := Lib.hid hml0
  clear hck hst hsp hN hRun hok0 hxs hxl hW hR hnP hml0 ea hlen hl hdl hn he0 he1 he2 himg hinp hCn hlc hlf hld hlM
  have hX0 : ((w.alloc (.cells #[.int .i64 mem, .int .i64 stk, .int .i64 inp, .slice Ad ld cd, .slice Af lf cf, .slice Ac lc cc] 26)).alloc (.cells #[.slice none 0 0, .int .i64 0, .int .u64 0, .int .u64 0, .int .u64 0, .int .u64 0, .int .u64 0, .int .u64 0, .int .u64 0, .int .u64 0, .slice none 0 0] 32)).heap[w.heap.size]? = some (.cells #[.int .i64 mem, .int .i64 stk, .int .i64 inp, .slice Ad ld cd, .slice Af lf cf, .slice Ac lc cc] 26 (0, 0)) := ((Below.box _ _).block _ (by simp)).trans (heap_newM rfl)
  have hX1 : ((w.alloc (.cells #[.int .i64 mem, .int .i64 stk, .int .i64 inp, .slice Ad ld cd, .slice Af lf cf, .slice Ac lc cc] 26)).alloc (.cells #[.slice none 0 0, .int .i64 0, .int .u64 0, .int .u64 0, .int .u64 0, .int .u64 0, .int .u64 0, .int .u64 0, .int .u64 0, .int .u64 0, .slice none 0 0] 32)).heap[w.heap.size + 1]? = some (.cells #[.slice none 0 0, .int .i64 0, .int .u64 0, .int .u64 0, .int .u64 0, .int .u64 0, .int .u64 0, .int .u64 0, .int .u64 0, .int .u64 0, .slice none 0 0] 32 (0, 0)) := heap_newM (by simp)
  have hB0 : Below w.heap.size w ((w.alloc (.cells #[.int .i64 mem, .int .i64 stk, .int .i64 inp, .slice Ad ld cd, .slice Af lf cf, .slice Ac lc cc] 26)).alloc (.cells #[.slice none 0 0, .int .i64 0, .int .u64 0, .int .u64 0, .int .u64 0, .int .u64 0, .int .u64 0, .int .u64 0, .int .u64 0, .int .u64 0, .slice none 0 0] 32)) := ((Below.refl _ _).alloc (Nat.le_refl _) _).alloc (by simp) _
  have hz0 : ((w.alloc (.cells #[.int .i64 mem, .int .i64 stk, .int .i64 inp, .slice Ad ld cd, .slice Af lf cf, .slice Ac lc cc] 26)).alloc (.cells #[.slice none 0 0, .int .i64 0, .int .u64 0, .int .u64 0, .int .u64 0, .int .u64 0, .int .u64 0, .int .u64 0, .int .u64 0, .int .u64 0, .slice none 0 0] 32)).heap.size = w.heap.size + 2 := by simp
  go_enter Tryd.func13, Tryd.ntmps13
  go_wp2_with fail
  generalize ((w.alloc (.cells #[.int .i64 mem, .int .i64 stk, .int .i64 inp, .slice Ad ld cd, .slice Af lf cf, .slice Ac lc cc] 26)).alloc (.cells #[.slice none 0 0, .int .i64 0, .int .u64 0, .int .u64 0, .int .u64 0, .int .u64 0, .int .u64 0, .int .u64 0, .int .u64 0, .int .u64 0, .slice none 0 0] 32)) = w0 at *
  refine (HCK.out _ hB0).mono ?_
  rintro e v1 ⟨rfl, hb⟩
  have HX1 := Lib.hid (And.intro ((hb.block _ (by omega)).trans hX0) ((hb.block _ (by omega)).trans hX1))
  have HB1 := Lib.hid (hB0.trans (hb.mono hB0.size))
  have HZ1 := Lib.hid (show w.heap.size + 2 ≤ v1.heap.size by have := hb.size; omega)
  clear hB0 hX0 hX1 hz0 hb
  have q0 := row_cell HX1.out.1 0
  have q1 := row_cell HX1.out.1 1
  have q2 := row_cell HX1.out.1 2
  have q3 := row_cell HX1.out.1 3
  have q4 := row_cell HX1.out.1 4
  have q5 := row_cell HX1.out.1 5
  simp at q0 q1 q2 q3 q4 q5
  go_wp2_with fail
  refine (HST.out _ HB1.out).mono ?_
  rintro e v2 ⟨A, cap, rfl, how, hb⟩
  have HX2 := Lib.hid (And.intro ((hb.block _ (by have := HZ1.out; omega)).trans HX1.out.1) ((hb.block _ (by have := HZ1.out; omega)).trans HX1.out.2))
  have HB2 := Lib.hid (HB1.out.trans (hb.mono HB1.out.size))
  have HZ2 := Lib.hid (Nat.le_trans HZ1.out hb.size)
  have HOW := Lib.hid how
  clear hb how q0 q1 q2 q3 q4 q5 hin
  have h1c : (#[.int .i64 0, .int .u64 0, .int .u64 0, .int .u64 0, .int .u64 0, .int .u64 0, .int .u64 0, .int .u64 0, .int .u64 0, .slice A n cap, .slice none 0 0] : Array Value).all (·.oneCell') = true := by simp [Value.oneCell']
  have H1C := Lib.hid h1c
  have HR9 := Lib.hid (show (v2.alloc (.cells #[.int .i64 0, .int .u64 0, .int .u64 0, .int .u64 0, .int .u64 0, .int .u64 0, .int .u64 0, .int .u64 0, .int .u64 0, .slice none 0 0, .slice none 0 0] 45)).heap[v2.heap.size]? = some (.cells #[.int .i64 0, .int .u64 0, .int .u64 0, .int .u64 0, .int .u64 0, .int .u64 0, .int .u64 0, .int .u64 0, .int .u64 0, .slice none 0 0, .slice none 0 0] 45 (0, 0)) from heap_newM rfl)
  clear h1c
  go_upto_region 7 with (with_reducible refine store_r (.tmp 9) (.tmp 27) v2.heap.size #[.int .i64 0, .int .u64 0, .int .u64 0, .int .u64 0, .int .u64 0, .int .u64 0, .int .u64 0, .int .u64 0, .int .u64 0, .slice none 0 0, .slice none 0 0] #[.int .i64 0, .int .u64 0, .int .u64 0, .int .u64 0, .int .u64 0, .int .u64 0, .int .u64 0, .int .u64 0, .int .u64 0, .slice A n cap, .slice none 0 0] HR9.out rfl rfl rfl rfl rfl rfl H1C.out ?_)
  have hb3 : Below v2.heap.size v2 ((v2.alloc (.cells #[.int .i64 0, .int .u64 0, .int .u64 0, .int .u64 0, .int .u64 0, .int .u64 0, .int .u64 0, .int .u64 0, .int .u64 0, .slice none 0 0, .slice none 0 0] 45)).setRow v2.heap.size #[.int .i64 0, .int .u64 0, .int .u64 0, .int .u64 0, .int .u64 0, .int .u64 0, .int .u64 0, .int .u64 0, .int .u64 0, .slice A n cap, .slice none 0 0]) := below_setRowM (Below.box v2 _) (Nat.le_refl _) _
  have h39 : ((v2.alloc (.cells #[.int .i64 0, .int .u64 0, .int .u64 0, .int .u64 0, .int .u64 0, .int .u64 0, .int .u64 0, .int .u64 0, .int .u64 0, .slice none 0 0, .slice none 0 0] 45)).setRow v2.heap.size #[.int .i64 0, .int .u64 0, .int .u64 0, .int .u64 0, .int .u64 0, .int .u64 0, .int .u64 0, .int .u64 0, .int .u64 0, .slice A n cap, .slice none 0 0]).heap[v2.heap.size]? = some (.cells #[.int .i64 0, .int .u64 0, .int .u64 0, .int .u64 0, .int .u64 0, .int .u64 0, .int .u64 0, .int .u64 0, .int .u64 0, .slice A n cap, .slice none 0 0] 45 (0, 0)) := setRow_heap _ _ _ _ _ _ HR9.out
  have hz3 : ((v2.alloc (.cells #[.int .i64 0, .int .u64 0, .int .u64 0, .int .u64 0, .int .u64 0, .int .u64 0, .int .u64 0, .int .u64 0, .int .u64 0, .slice none 0 0, .slice none 0 0] 45)).setRow v2.heap.size #[.int .i64 0, .int .u64 0, .int .u64 0, .int .u64 0, .int .u64 0, .int .u64 0, .int .u64 0, .int .u64 0, .int .u64 0, .slice A n cap, .slice none 0 0]).heap.size = v2.heap.size + 1 := by simp
  generalize ((v2.alloc (.cells #[.int .i64 0, .int .u64 0, .int .u64 0, .int .u64 0, .int .u64 0, .int .u64 0, .int .u64 0, .int .u64 0, .int .u64 0, .slice none 0 0, .slice none 0 0] 45)).setRow v2.heap.size #[.int .i64 0, .int .u64 0, .int .u64 0, .int .u64 0, .int .u64 0, .int .u64 0, .int .u64 0, .int .u64 0, .int .u64 0, .slice A n cap, .slice none 0 0]) = v3 at *
  have HR10 := Lib.hid (show ((v3.alloc (.cells #[.int .i64 0] 3)).alloc (.cells #[.slice none 0 0, .int .i64 0, .int .u64 0, .int .u64 0, .int .u64 0, .int .u64 0, .int .u64 0, .int .u64 0, .int .u64 0, .int .u64 0, .slice none 0 0] 32)).heap[v3.heap.size + 1]? = some (.cells #[.slice none 0 0, .int .i64 0, .int .u64 0, .int .u64 0, .int .u64 0, .int .u64 0, .int .u64 0, .int .u64 0, .int .u64 0, .int .u64 0, .slice none 0 0] 32 (0, 0)) from heap_newM (by simp))
  have h1c : (#[.slice (some ⟨v3.heap.size, 0, none⟩) 1 1, .int .i64 0, .int .u64 0, .int .u64 0, .int .u64 0, .int .u64 0, .int .u64 0, .int .u64 0, .int .u64 0, .int .u64 0, .slice none 0 0] : Array Value).all (·.oneCell') = true := by simp [Value.oneCell']
  have H1CT := Lib.hid h1c
  have HB3 := Lib.hid hb3
  have H39 := Lib.hid h39
  have HZ3 := Lib.hid hz3
  clear hb3 h39 hz3 h1c HR9
  go_upto_region 8 with (with_reducible refine store_tr (.tmp 10) (.tmp 29) (v3.heap.size + 1) #[.slice none 0 0, .int .i64 0, .int .u64 0, .int .u64 0, .int .u64 0, .int .u64 0, .int .u64 0, .int .u64 0, .int .u64 0, .int .u64 0, .slice none 0 0] #[.slice (some ⟨v3.heap.size, 0, none⟩) 1 1, .int .i64 0, .int .u64 0, .int .u64 0, .int .u64 0, .int .u64 0, .int .u64 0, .int .u64 0, .int .u64 0, .int .u64 0, .slice none 0 0] HR10.out rfl rfl rfl rfl rfl rfl H1CT.out ?_)
  have hb4 : Below v3.heap.size v3 (((v3.alloc (.cells #[.int .i64 0] 3)).alloc (.cells #[.slice none 0 0, .int .i64 0, .int .u64 0, .int .u64 0, .int .u64 0, .int .u64 0, .int .u64 0, .int .u64 0, .int .u64 0, .int .u64 0, .slice none 0 0] 32)).setRow (v3.heap.size + 1) #[.slice (some ⟨v3.heap.size, 0, none⟩) 1 1, .int .i64 0, .int .u64 0, .int .u64 0, .int .u64 0, .int .u64 0, .int .u64 0, .int .u64 0, .int .u64 0, .int .u64 0, .slice none 0 0]) := below_setRowM (((Below.box v3 (.cells #[.int .i64 0] 3))).alloc (by simp) _) (by omega) _
  have h410 : (((v3.alloc (.cells #[.int .i64 0] 3)).alloc (.cells #[.slice none 0 0, .int .i64 0, .int .u64 0, .int .u64 0, .int .u64 0, .int .u64 0, .int .u64 0, .int .u64 0, .int .u64 0, .int .u64 0, .slice none 0 0] 32)).setRow (v3.heap.size + 1) #[.slice (some ⟨v3.heap.size, 0, none⟩) 1 1, .int .i64 0, .int .u64 0, .int .u64 0, .int .u64 0, .int .u64 0, .int .u64 0, .int .u64 0, .int .u64 0, .int .u64 0, .slice none 0 0]).heap[v3.heap.size + 1]? = some (.cells #[.slice (some ⟨v3.heap.size, 0, none⟩) 1 1, .int .i64 0, .int .u64 0, .int .u64 0, .int .u64 0, .int .u64 0, .int .u64 0, .int .u64 0, .int .u64 0, .int .u64 0, .slice none 0 0] 32 (0, 0)) := setRow_heap _ _ _ _ _ _ HR10.out
  have h4p : (((v3.alloc (.cells #[.int .i64 0] 3)).alloc (.cells #[.slice none 0 0, .int .i64 0, .int .u64 0, .int .u64 0, .int .u64 0, .int .u64 0, .int .u64 0, .int .u64 0, .int .u64 0, .int .u64 0, .slice none 0 0] 32)).setRow (v3.heap.size + 1) #[.slice (some ⟨v3.heap.size, 0, none⟩) 1 1, .int .i64 0, .int .u64 0, .int .u64 0, .int .u64 0, .int .u64 0, .int .u64 0, .int .u64 0, .int .u64 0, .int .u64 0, .slice none 0 0]).heap[v3.heap.size]? = some (.cells #[.int .i64 0] 3 (0, 0)) := by
    rw [setRow_other _ _ _ _ (by omega)]
    exact ((Below.box (v3.alloc (.cells #[.int .i64 0] 3)) _).block _ (by simp)).trans (heap_newM rfl)
  have hz4 : (((v3.alloc (.cells #[.int .i64 0] 3)).alloc (.cells #[.slice none 0 0, .int .i64 0, .int .u64 0, .int .u64 0, .int .u64 0, .int .u64 0, .int .u64 0, .int .u64 0, .int .u64 0, .int .u64 0, .slice none 0 0] 32)).setRow (v3.heap.size + 1) #[.slice (some ⟨v3.heap.size, 0, none⟩) 1 1, .int .i64 0, .int .u64 0, .int .u64 0, .int .u64 0, .int .u64 0, .int .u64 0, .int .u64 0, .int .u64 0, .int .u64 0, .slice none 0 0]).heap.size = v3.heap.size + 2 := by simp
  generalize (((v3.alloc (.cells #[.int .i64 0] 3)).alloc (.cells #[.slice none 0 0, .int .i64 0, .int .u64 0, .int .u64 0, .int .u64 0, .int .u64 0, .int .u64 0, .int .u64 0, .int .u64 0, .int .u64 0, .slice none 0 0] 32)).setRow (v3.heap.size + 1) #[.slice (some ⟨v3.heap.size, 0, none⟩) 1 1, .int .i64 0, .int .u64 0, .int .u64 0, .int .u64 0, .int .u64 0, .int .u64 0, .int .u64 0, .int .u64 0, .int .u64 0, .slice none 0 0]) = v4 at *
  have hRg : RgR (w.heap.size + 2) v2.heap.size (v3.heap.size + 1) v2 P xs N 0 R n (some ⟨v3.heap.size, 0, none⟩) 1 v4 (Mc.start P) [0] A cap none 0 := by
    have hst0 : Mc.start P = ⟨0, [0, 0, 0, 0, 0, 0, 0, 0], Mc.mem0 P, []⟩ := rfl
    have hz3 := HZ3.out
    have hb := HB3.out.trans (hb4.mono HB3.out.size)
    refine ⟨Nat.zero_le _, HRUN.out.symm, HOK0.out, rfl, HML0.out, hb, (hb4.block _ (by omega)).trans H39.out, h410, Joins.ownsRow_le (own_below HOW.out hb) HZ1.out, World.ownsRow_nil _ _ _ _, ?_, ?_, by simp [Value.ownBlock], ?_⟩
    · exact ⟨rfl, .inr ⟨v3.heap.size, 1, _, rfl, by omega, h4p, Nat.le_refl _, by unfold maxLen; omega, rfl, rfl⟩⟩
    · intro k hk
      have := (HOW.out.lt k hk).2
      omega
    · intro k hk
      simp [Value.ownBlock] at hk
      subst hk
      refine ⟨by omega, by omega, fun e => ?_, by simp [Value.ownBlock]⟩
      have := (HOW.out.lt _ e).2
      omega
  have HRG := Lib.hid hRg
  have HX4 := Lib.hid HX2.out
  obtain ⟨g9, hg9⟩ : ∃ g, g = v2.heap.size := ⟨_, rfl⟩
  obtain ⟨g10, hg10⟩ : ∃ g, g = v3.heap.size + 1 := ⟨_, rfl⟩
  clear hb4 h410 h4p hz4 hRg
  have hRg := HRG.out
  rw [← hg9, ← hg10] at hRg
  have HRG2 := Lib.hid hRg
  have hgl : g9 < g10 := by have := HZ3.out; omega
  have HGL := Lib.hid (And.intro hgl (show v2.heap.size ≤ g9 by omega))
  simp only [← hg9, ← hg10]
  have HGE := Lib.hid (And.intro hg9 hg10)
  clear hRg hgl HRG hg9 hg10
  go_wp2_with fail
  go_loopw [11, 12, 13] (fun i _ _ wr => ∃ (q : Nat) (pA : Option Addr) (pcap : Nat) (s : Mc.St) (path : List Int) (sA : Option Addr) (scap : Nat) (oA : Option Addr) (ocap : Nat), i = .int .i64 q ∧ RgR (w.heap.size + 2) g9 g10 v2 P xs N q R n pA pcap wr s path sA scap oA ocap) (fun i _ _ _ => N - (intOf i).toNat)
  case atStart => exact ⟨0, _, _, _, _, _, _, _, _, rfl, HRG2.out⟩
  case round =>
    obtain ⟨q, pA, pcap, s, path, sA, scap, oA, ocap, rfl, hg⟩ := hrel
    have HG := Lib.hid hg
    have hNT := HN.out
    have hqN := hg.hq
    have hB := HB2.out.trans (hg.bel.mono HB2.out.size)
    have HB := Lib.hid hB
    have hX0 := (hg.bel.block _ (by have := HZ2.out; omega)).trans HX2.out.1
    have hX1 := (hg.bel.block _ (by have := HZ2.out; omega)).trans HX2.out.2
    have HX := Lib.hid (And.intro hX0 hX1)
    have h9l := (Array.getElem?_eq_some_iff.1 hg.r9).1
    have h10l := (Array.getElem?_eq_some_iff.1 hg.r10).1
    have HL := Lib.hid (And.intro h9l h10l)
    clear hX0 hX1 hB h9l h10l
    by_cases hqs : (q : Int) < steps ∧ (q : Int) < 4096
    case pos =>
      obtain ⟨hq1, hq2⟩ := hqs
      obtain ⟨f, hf⟩ : ∃ f, N - q = f + 1 := ⟨N - q - 1, by omega⟩
      have hgo := hg.hgo
      rw [hf] at hgo
      have hcall := HSP.out s hg.hok wr sA n scap oA _ ocap HB.out (BySl.of_own hg.om hg.hok.mb) (InSl.of_own hg.oo)
      have hokn := hg.hok.step HR.out HWC.out HXS.out.1 HXS.out.2
      have hgn := @Mc.go_next P xs f s path
      have hgs := @Mc.go_stop P xs f s path
      have hml1 : (Mc.step P xs s).1.mm.length = n := by have h1 := hokn.ml; have h2 := HNP.out; omega
      have hNEW : ∀ v5, Below wr.heap.size wr v5 → ∀ mA' mcap', ((mA' = sA ∧ mcap' = scap ∧ (Mc.step P xs s).1.mm = s.mm) ∨ v5.ownsRow wr.heap.size 5 1 (.slice mA' (Mc.step P xs s).1.mm.length mcap') (Mc.step P xs s).1.mm.length ((Mc.step P xs s).1.mm.map (Value.int .u8))) → _ := fun v5 hb mA' mcap' h1 => hg.mem (by have := hg.bel.size; have := HZ2.out; omega) hb h1 hml1
      have hNEO : ∀ v5, Below wr.heap.size wr v5 → ∀ oA' ocap', ((oA' = oA ∧ ocap' = ocap ∧ (Mc.step P xs s).1.op = s.op) ∨ v5.ownsRow wr.heap.size 3 1 (.slice oA' (Mc.step P xs s).1.op.length ocap') (Mc.step P xs s).1.op.length ((Mc.step P xs s).1.op.map (Value.int .i64))) → _ := fun v5 hb oA' ocap' h1 => hg.open_ (by have := hg.bel.size; have := HZ2.out; omega) hb h1
      generalize Mc.step P xs s = r at *
      obtain ⟨⟨tp, tq, tm, to⟩, en⟩ := r
      have hr9 := hg.r9
      have hr10 := hg.r10
      obtain ⟨pl, rg, mm, op⟩ := s
      simp only [stC] at hcall hr9 hml1 hNEW hNEO hgn hgs
      generalize hol : op.length = ol at hcall hr9
      obtain ⟨z0, hz0⟩ : ∃ z, rg.getD 0 0 = z := ⟨_, rfl⟩
      obtain ⟨z1, hz1⟩ : ∃ z, rg.getD 1 0 = z := ⟨_, rfl⟩
      obtain ⟨z2, hz2⟩ : ∃ z, rg.getD 2 0 = z := ⟨_, rfl⟩
      obtain ⟨z3, hz3⟩ : ∃ z, rg.getD 3 0 = z := ⟨_, rfl⟩
      obtain ⟨z4, hz4⟩ : ∃ z, rg.getD 4 0 = z := ⟨_, rfl⟩
      obtain ⟨z5, hz5⟩ : ∃ z, rg.getD 5 0 = z := ⟨_, rfl⟩
      obtain ⟨z6, hz6⟩ : ∃ z, rg.getD 6 0 = z := ⟨_, rfl⟩
      obtain ⟨z7, hz7⟩ : ∃ z, rg.getD 7 0 = z := ⟨_, rfl⟩
      simp only [hz0, hz1, hz2, hz3, hz4, hz5, hz6, hz7] at hcall hr9
      have HCALL := Lib.hid hcall
      have HOKN := Lib.hid hokn
      have HGN := Lib.hid hgn
      have HGS := Lib.hid hgs
      have HGO := Lib.hid hgo
      have HNEW := Lib.hid hNEW
      have HNEO := Lib.hid hNEO
      have HML1 := Lib.hid hml1
      have HF := Lib.hid hf
      have HQN := Lib.hid hqN
      have HZZ := Lib.hid (And.intro hz0 (And.intro hz1 (And.intro hz2 (And.intro hz3 (And.intro hz4 (And.intro hz5 (And.intro hz6 (hz7))))))))
      have HR9' := Lib.hid hr9
      have HR10' := Lib.hid hr10
      have HOL := Lib.hid hol
      clear hcall hokn hgn hgs hgo hNEW hNEO hml1 hf hqN hz0 hz1 hz2 hz3 hz4 hz5 hz6 hz7 hr9 hr10 hol hNT hg
      have q0 := row_cell HX.out.1 0
      have q1 := row_cell HX.out.1 1
      have q2 := row_cell HX.out.1 2
      have q3 := row_cell HX.out.1 3
      have q4 := row_cell HX.out.1 4
      have q5 := row_cell HX.out.1 5
      simp at q0 q1 q2 q3 q4 q5
      have x0 := row_cell HR9'.out 0
      have x1 := row_cell HR9'.out 1
      have x2 := row_cell HR9'.out 2
      have x3 := row_cell HR9'.out 3
      have x4 := row_cell HR9'.out 4
      have x5 := row_cell HR9'.out 5
      have x6 := row_cell HR9'.out 6
      have x7 := row_cell HR9'.out 7
      have x8 := row_cell HR9'.out 8
      have x9 := row_cell HR9'.out 9
      have x10 := row_cell HR9'.out 10
      simp at x0 x1 x2 x3 x4 x5 x6 x7 x8 x9 x10
      go_wp2_with fail
      refine HCALL.out.mono ?_
      rintro e v5 ⟨V, rfl, ⟨mA', mcap', oA', ocap', rfl, h1, h2⟩, hb⟩
      have hm5 := HNEW.out v5 hb mA' mcap' h1
      have ho5 := HNEO.out v5 hb oA' ocap' h2
      simp only [stC, HML1.out]
      clear h1 h2
      obtain ⟨tol, htol⟩ : ∃ l, to.length = l := ⟨_, rfl⟩
      rw [htol] at ho5 ⊢
      obtain ⟨y0, hy0⟩ : ∃ z, tq.getD 0 0 = z := ⟨_, rfl⟩
      obtain ⟨y1, hy1⟩ : ∃ z, tq.getD 1 0 = z := ⟨_, rfl⟩
      obtain ⟨y2, hy2⟩ : ∃ z, tq.getD 2 0 = z := ⟨_, rfl⟩
      obtain ⟨y3, hy3⟩ : ∃ z, tq.getD 3 0 = z := ⟨_, rfl⟩
      obtain ⟨y4, hy4⟩ : ∃ z, tq.getD 4 0 = z := ⟨_, rfl⟩
      obtain ⟨y5, hy5⟩ : ∃ z, tq.getD 5 0 = z := ⟨_, rfl⟩
      obtain ⟨y6, hy6⟩ : ∃ z, tq.getD 6 0 = z := ⟨_, rfl⟩
      obtain ⟨y7, hy7⟩ : ∃ z, tq.getD 7 0 = z := ⟨_, rfl⟩
      rw [hy0, hy1, hy2, hy3, hy4, hy5, hy6, hy7]
      have HTOL := Lib.hid htol
      have HYY := Lib.hid (And.intro hy0 (And.intro hy1 (And.intro hy2 (And.intro hy3 (And.intro hy4 (And.intro hy5 (And.intro hy6 (hy7))))))))
      have HM5 := Lib.hid hm5
      have HO5 := Lib.hid ho5
      have HB5 := Lib.hid hb
      have h1c : (#[.int .i64 tp, .int .u64 y0, .int .u64 y1, .int .u64 y2, .int .u64 y3, .int .u64 y4, .int .u64 y5, .int .u64 y6, .int .u64 y7, .slice mA' n mcap', .slice oA' tol ocap'] : Array Value).all (·.oneCell') = true := by simp [Value.oneCell']
      have H1C5 := Lib.hid h1c
      have HR12 := Lib.hid (show (v5.alloc (.cells #[.int .i64 0, .int .u64 0, .int .u64 0, .int .u64 0, .int .u64 0, .int .u64 0, .int .u64 0, .int .u64 0, .int .u64 0, .slice none 0 0, .slice none 0 0] 45)).heap[v5.heap.size]? = some (.cells #[.int .i64 0, .int .u64 0, .int .u64 0, .int .u64 0, .int .u64 0, .int .u64 0, .int .u64 0, .int .u64 0, .int .u64 0, .slice none 0 0, .slice none 0 0] 45 (0, 0)) from heap_newM rfl)
      clear htol hy0 hy1 hy2 hy3 hy4 hy5 hy6 hy7 hm5 ho5 hb h1c q0 q1 q2 q3 q4 q5 x0 x1 x2 x3 x4 x5 x6 x7 x8 x9 x10
      go_upto_region 12 with (with_reducible refine store_r (.tmp 12) (.tmp 44) v5.heap.size #[.int .i64 0, .int .u64 0, .int .u64 0, .int .u64 0, .int .u64 0, .int .u64 0, .int .u64 0, .int .u64 0, .int .u64 0, .slice none 0 0, .slice none 0 0] #[.int .i64 tp, .int .u64 y0, .int .u64 y1, .int .u64 y2, .int .u64 y3, .int .u64 y4, .int .u64 y5, .int .u64 y6, .int .u64 y7, .slice mA' n mcap', .slice oA' tol ocap'] HR12.out rfl rfl rfl rfl rfl rfl H1C5.out ?_)
      have hb6 : Below v5.heap.size v5 ((v5.alloc (.cells #[.int .i64 0, .int .u64 0, .int .u64 0, .int .u64 0, .int .u64 0, .int .u64 0, .int .u64 0, .int .u64 0, .int .u64 0, .slice none 0 0, .slice none 0 0] 45)).setRow v5.heap.size #[.int .i64 tp, .int .u64 y0, .int .u64 y1, .int .u64 y2, .int .u64 y3, .int .u64 y4, .int .u64 y5, .int .u64 y6, .int .u64 y7, .slice mA' n mcap', .slice oA' tol ocap']) := below_setRowM (Below.box v5 _) (Nat.le_refl _) _
      have h612 : ((v5.alloc (.cells #[.int .i64 0, .int .u64 0, .int .u64 0, .int .u64 0, .int .u64 0, .int .u64 0, .int .u64 0, .int .u64 0, .int .u64 0, .slice none 0 0, .slice none 0 0] 45)).setRow v5.heap.size #[.int .i64 tp, .int .u64 y0, .int .u64 y1, .int .u64 y2, .int .u64 y3, .int .u64 y4, .int .u64 y5, .int .u64 y6, .int .u64 y7, .slice mA' n mcap', .slice oA' tol ocap']).heap[v5.heap.size]? = some (.cells #[.int .i64 tp, .int .u64 y0, .int .u64 y1, .int .u64 y2, .int .u64 y3, .int .u64 y4, .int .u64 y5, .int .u64 y6, .int .u64 y7, .slice mA' n mcap', .slice oA' tol ocap'] 45 (0, 0)) := setRow_heap _ _ _ _ _ _ HR12.out
      have hz5 := HB5.out.size
      have hw6 := HB5.out.trans (hb6.mono HB5.out.size)
      have h69 := (hw6.block g9 HL.out.1).trans HR9'.out
      have h610 := (hw6.block g10 HL.out.2).trans HR10'.out
      have hm6 := own_below HM5.out.1 hb6
      have ho6 := own_below HO5.out.1 hb6
      have hp6 := own_below HG.out.op hw6
      obtain ⟨g12, hg12⟩ : ∃ g, v5.heap.size = g := ⟨_, rfl⟩
      rw [hg12] at hb6 h612 hz5 ⊢
      rw [show ((v5.alloc (.cells #[.int .i64 0, .int .u64 0, .int .u64 0, .int .u64 0, .int .u64 0, .int .u64 0, .int .u64 0, .int .u64 0, .int .u64 0, .slice none 0 0, .slice none 0 0] 45)).setRow v5.heap.size #[.int .i64 tp, .int .u64 y0, .int .u64 y1, .int .u64 y2, .int .u64 y3, .int .u64 y4, .int .u64 y5, .int .u64 y6, .int .u64 y7, .slice mA' n mcap', .slice oA' tol ocap']) = (v5.alloc (.cells #[.int .i64 0, .int .u64 0, .int .u64 0, .int .u64 0, .int .u64 0, .int .u64 0, .int .u64 0, .int .u64 0, .int .u64 0, .slice none 0 0, .slice none 0 0] 45)).setRow g12 #[.int .i64 tp, .int .u64 y0, .int .u64 y1, .int .u64 y2, .int .u64 y3, .int .u64 y4, .int .u64 y5, .int .u64 y6, .int .u64 y7, .slice mA' n mcap', .slice oA' tol ocap'] by rw [hg12]] at hw6 h69 h610 hm6 ho6 hp6
      generalize (v5.alloc (.cells #[.int .i64 0, .int .u64 0, .int .u64 0, .int .u64 0, .int .u64 0, .int .u64 0, .int .u64 0, .int .u64 0, .int .u64 0, .slice none 0 0, .slice none 0 0] 45)).setRow g12 #[.int .i64 tp, .int .u64 y0, .int .u64 y1, .int .u64 y2, .int .u64 y3, .int .u64 y4, .int .u64 y5, .int .u64 y6, .int .u64 y7, .slice mA' n mcap', .slice oA' tol ocap'] = v6 at *
      have HW6 := Lib.hid hw6
      have H6 := Lib.hid (And.intro h69 (And.intro h610 h612))
      have HM6 := Lib.hid hm6
      have HO6 := Lib.hid ho6
      have HP6 := Lib.hid hp6
      have HG12 := Lib.hid (show g9 < g12 ∧ g10 < g12 by have := HL.out; omega)
      have HM5' := Lib.hid HM5.out.2
      have HO5' := Lib.hid HO5.out.2
      clear hb6 h612 hz5 hw6 h69 h610 hm6 ho6 hp6 hg12 HR12
      by_cases hen : en = 0
      · subst hen
        have hgn := HGN.out rfl
        have HGN2 := Lib.hid hgn
        clear hgn
        have u0 := row_cell H6.out.2.2 0
        have u1 := row_cell H6.out.2.2 1
        have u2 := row_cell H6.out.2.2 2
        have u3 := row_cell H6.out.2.2 3
        have u4 := row_cell H6.out.2.2 4
        have u5 := row_cell H6.out.2.2 5
        have u6 := row_cell H6.out.2.2 6
        have u7 := row_cell H6.out.2.2 7
        have u8 := row_cell H6.out.2.2 8
        have u9 := row_cell H6.out.2.2 9
        have u10 := row_cell H6.out.2.2 10
        simp at u0 u1 u2 u3 u4 u5 u6 u7 u8 u9 u10
        go_upto_region 15 with (with_reducible refine store_r (.tmp 9) (.tmp 50) g9 #[.int .i64 pl, .int .u64 z0, .int .u64 z1, .int .u64 z2, .int .u64 z3, .int .u64 z4, .int .u64 z5, .int .u64 z6, .int .u64 z7, .slice sA n scap, .slice oA ol ocap] #[.int .i64 tp, .int .u64 y0, .int .u64 y1, .int .u64 y2, .int .u64 y3, .int .u64 y4, .int .u64 y5, .int .u64 y6, .int .u64 y7, .slice mA' n mcap', .slice oA' tol ocap'] H6.out.1 rfl rfl rfl rfl rfl rfl H1C5.out ?_)
        have h79 : (v6.setRow g9 #[.int .i64 tp, .int .u64 y0, .int .u64 y1, .int .u64 y2, .int .u64 y3, .int .u64 y4, .int .u64 y5, .int .u64 y6, .int .u64 y7, .slice mA' n mcap', .slice oA' tol ocap']).heap[g9]? = some (.cells #[.int .i64 tp, .int .u64 y0, .int .u64 y1, .int .u64 y2, .int .u64 y3, .int .u64 y4, .int .u64 y5, .int .u64 y6, .int .u64 y7, .slice mA' n mcap', .slice oA' tol ocap'] 45 (0, 0)) := setRow_heap _ _ _ _ _ _ H6.out.1
        have h710 : (v6.setRow g9 #[.int .i64 tp, .int .u64 y0, .int .u64 y1, .int .u64 y2, .int .u64 y3, .int .u64 y4, .int .u64 y5, .int .u64 y6, .int .u64 y7, .slice mA' n mcap', .slice oA' tol ocap']).heap[g10]? = some (.cells #[.slice pA (q + 1) pcap, .int .i64 0, .int .u64 0, .int .u64 0, .int .u64 0, .int .u64 0, .int .u64 0, .int .u64 0, .int .u64 0, .int .u64 0, .slice none 0 0] 32 (0, 0)) := (setRow_other _ _ _ _ (by have := HGL.out; omega)).trans H6.out.2.1
        have hm7 := ownsRow.blk (w' := v6.setRow g9 #[.int .i64 tp, .int .u64 y0, .int .u64 y1, .int .u64 y2, .int .u64 y3, .int .u64 y4, .int .u64 y5, .int .u64 y6, .int .u64 y7, .slice mA' n mcap', .slice oA' tol ocap']) HM6.out fun k hk => setRow_other _ _ _ _ (HM5'.out.1 k hk).1
        have ho7 := ownsRow.blk (w' := v6.setRow g9 #[.int .i64 tp, .int .u64 y0, .int .u64 y1, .int .u64 y2, .int .u64 y3, .int .u64 y4, .int .u64 y5, .int .u64 y6, .int .u64 y7, .slice mA' n mcap', .slice oA' tol ocap']) HO6.out fun k hk => setRow_other _ _ _ _ (HO5'.out.1 k hk).1
        have hp7 := ownsRow.blk (w' := v6.setRow g9 #[.int .i64 tp, .int .u64 y0, .int .u64 y1, .int .u64 y2, .int .u64 y3, .int .u64 y4, .int .u64 y5, .int .u64 y6, .int .u64 y7, .slice mA' n mcap', .slice oA' tol ocap']) HP6.out fun k hk => setRow_other _ _ _ _ (HG.out.dp k hk).1
        have hb7 : Below v2.heap.size v2 (v6.setRow g9 #[.int .i64 tp, .int .u64 y0, .int .u64 y1, .int .u64 y2, .int .u64 y3, .int .u64 y4, .int .u64 y5, .int .u64 y6, .int .u64 y7, .slice mA' n mcap', .slice oA' tol ocap']) := below_setRowM (HG.out.bel.trans (HW6.out.mono HG.out.bel.size)) HGL.out.2 _
        generalize v6.setRow g9 #[.int .i64 tp, .int .u64 y0, .int .u64 y1, .int .u64 y2, .int .u64 y3, .int .u64 y4, .int .u64 y5, .int .u64 y6, .int .u64 y7, .slice mA' n mcap', .slice oA' tol ocap'] = v7 at *
        have H79 := Lib.hid h79
        have H710 := Lib.hid h710
        have HM7 := Lib.hid hm7
        have HO7 := Lib.hid ho7
        have HP7 := Lib.hid hp7
        have HB7 := Lib.hid hb7
        have hl79 := (Array.getElem?_eq_some_iff.1 h79).1
        have hl710 := (Array.getElem?_eq_some_iff.1 h710).1
        have HL7 := Lib.hid (And.intro hl79 hl710)
        have c9 := row_cell h79 0
        have c10 := row_cell h710 0
        simp at c9 c10
        have ho1 := HP7.out.alloc (.cells #[.int .i64 tp] 3)
        have HO1 := Lib.hid ho1
        have hq5 : q + 1 ≤ 5000 := by omega
        have hb2 := hb7.size
        clear h79 h710 hm7 ho7 hp7 hb7 hl79 hl710 ho1 u0 u1 u2 u3 u4 u5 u6 u7 u8 u9 u10
        obtain ⟨i0, hi0, hz0, hz1, hz2⟩ := info_parts i64_infoM
        go_wp2_with (
          at_builtin
          refine wpList_apM (w := v7.alloc (.cells #[.int .i64 tp] 3)) rfl (.tmp 52) (.tmp 55) 23 rfl v2.heap.size 3 i0 _ 8 Tryd.underlying23 hi0 hz0 hz1 hz2 rfl (.slice pA (q + 1) pcap) (q + 1) _ rfl HO1.out ⟨v7.heap.size, 0, none⟩ 1 1 [.int .i64 tp] rfl (Sl.new v7 [.int .i64 tp] 3) (one_cell64M [tp]) (by simp only [maxLen]; omega) (by omega) (by simp; omega) ?_
          intro pv' v8 hpo8 hg8 hor8
          obtain ⟨pA', pcap', rfl, _, _, _⟩ := own_open hpo8
          have hkb : ∀ k, k < v7.heap.size → (Value.slice pA (q + 1) pcap).ownBlock ≠ some k → v8.heap[k]? = v7.heap[k]? := fun k hk hne => (hg8.block k (by simp; omega) (fun e => hne e.symm)).trans ((Below.box v7 _).block k hk)
          have h810 := (hkb g10 HL7.out.2 (fun e => (HG.out.dp _ e).2.1 rfl)).trans H710.out
          have c10' := row_cell h810 0
          have f10' := Joins.unfrozen_of_block h810 0
          simp at c10'
          have HKB := Lib.hid hkb
          have H810 := Lib.hid h810
          have HPO8 := Lib.hid hpo8
          have HOR8 := Lib.hid hor8
          have HG8 := Lib.hid hg8
          clear hkb h810 hpo8 hor8 hg8 c9 c10)
        go_roundw
        case rel =>
          have hor8 := HOR8.out
          rw [show (v7.alloc (.cells #[.int .i64 tp] 3)).heap.size = v7.heap.size + 1 by simp] at hor8
          have hl7 := HL7.out
          have hmk : ∀ k, k < v7.heap.size → (Value.slice pA (q + 1) pcap).ownBlock ≠ some k → k ≠ g10 → ∀ X, (v8.setCell ⟨g10, 0, none⟩ X).heap[k]? = v7.heap[k]? := fun k hk hne hk10 X => (Below.heap_setCell _ _ _ _ (by simpa using hk10)).trans (HKB.out k hk hne)
          refine ⟨q + 1, pA', pcap', ⟨tp, tq, tm, to⟩, path ++ [tp], mA', mcap', oA', ocap', by go_num, by have := HF.out; omega, ?_, HOKN.out, by have := HG.out.hpl; simp; omega, HML1.out, ?_, ?_, ?_, ?_, ?_, ?_, HM5'.out.1, ?_, ?_⟩
          · have h1 := HGO.out
            rw [HGN2.out] at h1
            rw [← h1, show N - (q + 1) = f by have := HF.out; omega]
          · exact ((HB7.out.alloc HB7.out.size _).grown HG8.out (by have := HB7.out.size; simp; omega) (fun k hk => (HP7.out.lt k hk).1)).setCell (by have := HGL.out; simp; omega) _
          · rw [hmk g9 hl7.1 (fun e => (HG.out.dp _ e).1 rfl) (by have := HGL.out; omega), H79.out]
            obtain ⟨e0, e1, e2, e3, e4, e5, e6, e7⟩ := HYY.out
            simp only [stC, e0, e1, e2, e3, e4, e5, e6, e7, HTOL.out]
          · exact Joins.block_setCell H810.out _
          · exact ownsRow.blk HM7.out fun k hk => hmk k (HM7.out.lt k hk).2 (fun e => HM5'.out.2 k e hk) (HM5'.out.1 k hk).2 _
          · have h1 := ownsRow.blk (w' := v8.setCell ⟨g10, 0, none⟩ (.slice pA' (q + 1 + 1) pcap')) HO7.out fun k hk => hmk k (HO7.out.lt k hk).2 (fun e => HO5'.out.2 k e hk) (HO5'.out.1 k hk).2 _
            simp only [HTOL.out]
            exact h1
          · have h1 := ownsRow.blk (w' := v8.setCell ⟨g10, 0, none⟩ (.slice pA' (q + 1 + 1) pcap')) HPO8.out fun k hk => Below.heap_setCell _ _ _ _ (by
              rcases hor8 with h2 | h2
              · have := (HG.out.dp k (h2.symm.trans hk)).2.1; simpa using this
              · rw [h2] at hk; injection hk with hk; simp; omega)
            simpa using h1
          · simp only [HTOL.out]
            exact HO5'.out.1
          · intro k hk
            simp only [HTOL.out]
            rcases hor8 with h2 | h2
            · have h3 := h2.symm.trans hk
              exact ⟨(HG.out.dp k h3).1, (HG.out.dp k h3).2.1, HM5'.out.2 k h3, HO5'.out.2 k h3⟩
            · have h4 := h2.symm.trans hk
              injection h4 with h4
              exact ⟨by omega, by omega, fun e => by have := (HM7.out.lt k e).2; omega, fun e => by have := (HO7.out.lt k e).2; omega⟩
        case measure => simp [intOf]; have := HF.out; omega
      · have hgs := HGS.out hen
        have hreq := HGO.out
        rw [hgs] at hreq
        have HREQ := Lib.hid hreq
        have hen2 : (en != 0) = true := by simpa using hen
        have hr10 := H6.out.2.1
        have c1 := row_cell hr10 1
        have f1 := Joins.unfrozen_of_block hr10 1
        simp at c1
        have HR10 := Lib.hid hr10
        clear hgs hreq hen hr10
        go_upto_region 16 with (fail)
        have hu10 : (v6.setCell ⟨g10, 1, none⟩ (.int .i64 en)).heap[g10]? = some (.cells #[.slice pA (q + 1) pcap, .int .i64 en, .int .u64 0, .int .u64 0, .int .u64 0, .int .u64 0, .int .u64 0, .int .u64 0, .int .u64 0, .int .u64 0, .slice none 0 0] 32 (0, 0)) := Joins.block_setCell HR10.out _
        have hku : ∀ k, k ≠ g10 → (v6.setCell ⟨g10, 1, none⟩ (.int .i64 en)).heap[k]? = v6.heap[k]? := fun k hk => Below.heap_setCell _ _ _ _ (by simpa using hk)
        have hu9 := (hku g9 (by have := HGL.out; omega)).trans H6.out.1
        have hbu : Below w.heap.size w (v6.setCell ⟨g10, 1, none⟩ (.int .i64 en)) := (HB.out.trans (HW6.out.mono HB.out.size)).setCell (by have := HGL.out; have := HZ2.out; simp; omega) _
        have hx1 := (hku (w.heap.size + 1) (by have := HGL.out; have := HZ2.out; omega)).trans ((HW6.out.block _ (by have := HZ2.out; have := HG.out.bel.size; omega)).trans HX.out.2)
        have hpu := ownsRow.blk (w' := v6.setCell ⟨g10, 1, none⟩ (.int .i64 en)) HP6.out fun k hk => hku k (HG.out.dp k hk).2.1
        have hmu := ownsRow.blk (w' := v6.setCell ⟨g10, 1, none⟩ (.int .i64 en)) (own_below HG.out.om HW6.out) fun k hk => hku k (HG.out.dm k hk).2
        generalize v6.setCell ⟨g10, 1, none⟩ (.int .i64 en) = u1 at *
        have R9 := Lib.hid hu9
        have R10 := Lib.hid hu10
        have HBU := Lib.hid hbu
        have X1U := Lib.hid hx1
        have HPU := Lib.hid hpu
        have HMU := Lib.hid hmu
        clear hu9 hu10 hbu hx1 hpu hmu hku c1 f1 hen2 hq1 hq2
        have x0 := row_cell R9.out 0
        have x1 := row_cell R9.out 1
        have x2 := row_cell R9.out 2
        have x3 := row_cell R9.out 3
        have x4 := row_cell R9.out 4
        have x5 := row_cell R9.out 5
        have x6 := row_cell R9.out 6
        have x7 := row_cell R9.out 7
        have x8 := row_cell R9.out 8
        have x9 := row_cell R9.out 9
        have x10 := row_cell R9.out 10
        simp at x0 x1 x2 x3 x4 x5 x6 x7 x8 x9 x10
        have c0 := row_cell R10.out 0
        have c1 := row_cell R10.out 1
        have c2 := row_cell R10.out 2
        have c3 := row_cell R10.out 3
        have c4 := row_cell R10.out 4
        have c5 := row_cell R10.out 5
        have c6 := row_cell R10.out 6
        have c7 := row_cell R10.out 7
        have c8 := row_cell R10.out 8
        have c9 := row_cell R10.out 9
        have c10 := row_cell R10.out 10
        simp at c0 c1 c2 c3 c4 c5 c6 c7 c8 c9 c10
        have f2 := Joins.unfrozen_of_block R10.out 2
        have f3 := Joins.unfrozen_of_block R10.out 3
        have f4 := Joins.unfrozen_of_block R10.out 4
        have f5 := Joins.unfrozen_of_block R10.out 5
        have f6 := Joins.unfrozen_of_block R10.out 6
        have f7 := Joins.unfrozen_of_block R10.out 7
        have f8 := Joins.unfrozen_of_block R10.out 8
        have f9 := Joins.unfrozen_of_block R10.out 9
        have f10 := Joins.unfrozen_of_block R10.out 10
        go_upto_region 17 with (fail)
        have s0 : (u1.setCell ⟨g10, 2, none⟩ (.int .u64 z0)).heap[g10]? = some (.cells #[.slice pA (q + 1) pcap, .int .i64 en, .int .u64 z0, .int .u64 0, .int .u64 0, .int .u64 0, .int .u64 0, .int .u64 0, .int .u64 0, .int .u64 0, .slice none 0 0] 32 (0, 0)) := Joins.block_setCell R10.out _
        have s1 : ((u1.setCell ⟨g10, 2, none⟩ (.int .u64 z0)).setCell ⟨g10, 3, none⟩ (.int .u64 z1)).heap[g10]? = some (.cells #[.slice pA (q + 1) pcap, .int .i64 en, .int .u64 z0, .int .u64 z1, .int .u64 0, .int .u64 0, .int .u64 0, .int .u64 0, .int .u64 0, .int .u64 0, .slice none 0 0] 32 (0, 0)) := Joins.block_setCell s0 _
        have s2 : (((u1.setCell ⟨g10, 2, none⟩ (.int .u64 z0)).setCell ⟨g10, 3, none⟩ (.int .u64 z1)).setCell ⟨g10, 4, none⟩ (.int .u64 z2)).heap[g10]? = some (.cells #[.slice pA (q + 1) pcap, .int .i64 en, .int .u64 z0, .int .u64 z1, .int .u64 z2, .int .u64 0, .int .u64 0, .int .u64 0, .int .u64 0, .int .u64 0, .slice none 0 0] 32 (0, 0)) := Joins.block_setCell s1 _
        have s3 : ((((u1.setCell ⟨g10, 2, none⟩ (.int .u64 z0)).setCell ⟨g10, 3, none⟩ (.int .u64 z1)).setCell ⟨g10, 4, none⟩ (.int .u64 z2)).setCell ⟨g10, 5, none⟩ (.int .u64 z3)).heap[g10]? = some (.cells #[.slice pA (q + 1) pcap, .int .i64 en, .int .u64 z0, .int .u64 z1, .int .u64 z2, .int .u64 z3, .int .u64 0, .int .u64 0, .int .u64 0, .int .u64 0, .slice none 0 0] 32 (0, 0)) := Joins.block_setCell s2 _
        have s4 : (((((u1.setCell ⟨g10, 2, none⟩ (.int .u64 z0)).setCell ⟨g10, 3, none⟩ (.int .u64 z1)).setCell ⟨g10, 4, none⟩ (.int .u64 z2)).setCell ⟨g10, 5, none⟩ (.int .u64 z3)).setCell ⟨g10, 6, none⟩ (.int .u64 z4)).heap[g10]? = some (.cells #[.slice pA (q + 1) pcap, .int .i64 en, .int .u64 z0, .int .u64 z1, .int .u64 z2, .int .u64 z3, .int .u64 z4, .int .u64 0, .int .u64 0, .int .u64 0, .slice none 0 0] 32 (0, 0)) := Joins.block_setCell s3 _
        have s5 : ((((((u1.setCell ⟨g10, 2, none⟩ (.int .u64 z0)).setCell ⟨g10, 3, none⟩ (.int .u64 z1)).setCell ⟨g10, 4, none⟩ (.int .u64 z2)).setCell ⟨g10, 5, none⟩ (.int .u64 z3)).setCell ⟨g10, 6, none⟩ (.int .u64 z4)).setCell ⟨g10, 7, none⟩ (.int .u64 z5)).heap[g10]? = some (.cells #[.slice pA (q + 1) pcap, .int .i64 en, .int .u64 z0, .int .u64 z1, .int .u64 z2, .int .u64 z3, .int .u64 z4, .int .u64 z5, .int .u64 0, .int .u64 0, .slice none 0 0] 32 (0, 0)) := Joins.block_setCell s4 _
        have s6 : (((((((u1.setCell ⟨g10, 2, none⟩ (.int .u64 z0)).setCell ⟨g10, 3, none⟩ (.int .u64 z1)).setCell ⟨g10, 4, none⟩ (.int .u64 z2)).setCell ⟨g10, 5, none⟩ (.int .u64 z3)).setCell ⟨g10, 6, none⟩ (.int .u64 z4)).setCell ⟨g10, 7, none⟩ (.int .u64 z5)).setCell ⟨g10, 8, none⟩ (.int .u64 z6)).heap[g10]? = some (.cells #[.slice pA (q + 1) pcap, .int .i64 en, .int .u64 z0, .int .u64 z1, .int .u64 z2, .int .u64 z3, .int .u64 z4, .int .u64 z5, .int .u64 z6, .int .u64 0, .slice none 0 0] 32 (0, 0)) := Joins.block_setCell s5 _
        have s7 : ((((((((u1.setCell ⟨g10, 2, none⟩ (.int .u64 z0)).setCell ⟨g10, 3, none⟩ (.int .u64 z1)).setCell ⟨g10, 4, none⟩ (.int .u64 z2)).setCell ⟨g10, 5, none⟩ (.int .u64 z3)).setCell ⟨g10, 6, none⟩ (.int .u64 z4)).setCell ⟨g10, 7, none⟩ (.int .u64 z5)).setCell ⟨g10, 8, none⟩ (.int .u64 z6)).setCell ⟨g10, 9, none⟩ (.int .u64 z7)).heap[g10]? = some (.cells #[.slice pA (q + 1) pcap, .int .i64 en, .int .u64 z0, .int .u64 z1, .int .u64 z2, .int .u64 z3, .int .u64 z4, .int .u64 z5, .int .u64 z6, .int .u64 z7, .slice none 0 0] 32 (0, 0)) := Joins.block_setCell s6 _
        have hkeep : ∀ k, k ≠ g10 → ((((((((u1.setCell ⟨g10, 2, none⟩ (.int .u64 z0)).setCell ⟨g10, 3, none⟩ (.int .u64 z1)).setCell ⟨g10, 4, none⟩ (.int .u64 z2)).setCell ⟨g10, 5, none⟩ (.int .u64 z3)).setCell ⟨g10, 6, none⟩ (.int .u64 z4)).setCell ⟨g10, 7, none⟩ (.int .u64 z5)).setCell ⟨g10, 8, none⟩ (.int .u64 z6)).setCell ⟨g10, 9, none⟩ (.int .u64 z7)).heap[k]? = u1.heap[k]? := fun k hk => (Below.heap_setCell _ _ _ _ (by simpa using hk)).trans ((Below.heap_setCell _ _ _ _ (by simpa using hk)).trans ((Below.heap_setCell _ _ _ _ (by simpa using hk)).trans ((Below.heap_setCell _ _ _ _ (by simpa using hk)).trans ((Below.heap_setCell _ _ _ _ (by simpa using hk)).trans ((Below.heap_setCell _ _ _ _ (by simpa using hk)).trans ((Below.heap_setCell _ _ _ _ (by simpa using hk)).trans ((Below.heap_setCell _ _ _ _ (by simpa using hk)).trans (rfl))))))))
        have hbel : Below w.heap.size w ((((((((u1.setCell ⟨g10, 2, none⟩ (.int .u64 z0)).setCell ⟨g10, 3, none⟩ (.int .u64 z1)).setCell ⟨g10, 4, none⟩ (.int .u64 z2)).setCell ⟨g10, 5, none⟩ (.int .u64 z3)).setCell ⟨g10, 6, none⟩ (.int .u64 z4)).setCell ⟨g10, 7, none⟩ (.int .u64 z5)).setCell ⟨g10, 8, none⟩ (.int .u64 z6)).setCell ⟨g10, 9, none⟩ (.int .u64 z7)) := ((((((((HBU.out.setCell (by have := HGL.out; have := HZ2.out; simp; omega) _).setCell (by have := HGL.out; have := HZ2.out; simp; omega) _).setCell (by have := HGL.out; have := HZ2.out; simp; omega) _).setCell (by have := HGL.out; have := HZ2.out; simp; omega) _).setCell (by have := HGL.out; have := HZ2.out; simp; omega) _).setCell (by have := HGL.out; have := HZ2.out; simp; omega) _).setCell (by have := HGL.out; have := HZ2.out; simp; omega) _).setCell (by have := HGL.out; have := HZ2.out; simp; omega) _)
        generalize ((((((((u1.setCell ⟨g10, 2, none⟩ (.int .u64 z0)).setCell ⟨g10, 3, none⟩ (.int .u64 z1)).setCell ⟨g10, 4, none⟩ (.int .u64 z2)).setCell ⟨g10, 5, none⟩ (.int .u64 z3)).setCell ⟨g10, 6, none⟩ (.int .u64 z4)).setCell ⟨g10, 7, none⟩ (.int .u64 z5)).setCell ⟨g10, 8, none⟩ (.int .u64 z6)).setCell ⟨g10, 9, none⟩ (.int .u64 z7)) = u8 at *
        have S7 := Lib.hid s7
        have HKEEP := Lib.hid hkeep
        have HBEL := Lib.hid hbel
        have r9 := (hkeep g9 (by have := HGL.out; omega)).trans R9.out
        clear s0 s1 s2 s3 s4 s5 s6 s7 hkeep hbel x0 x1 x2 x3 x4 x5 x6 x7 x8 x9 x10 c0 c1 c2 c3 c4 c5 c6 c7 c8 c9 c10 f2 f3 f4 f5 f6 f7 f8 f9 f10
        have x9 := row_cell r9 9
        have c10 := row_cell S7.out 10
        have f10 := Joins.unfrozen_of_block S7.out 10
        simp at x9 c10
        clear r9
        go_upto_region 18 with (fail)
        have s9 : (u8.setCell ⟨g10, 10, none⟩ (.slice sA n scap)).heap[g10]? = some (.cells #[.slice pA (q + 1) pcap, .int .i64 en, .int .u64 z0, .int .u64 z1, .int .u64 z2, .int .u64 z3, .int .u64 z4, .int .u64 z5, .int .u64 z6, .int .u64 z7, .slice sA n scap] 32 (0, 0)) := Joins.block_setCell S7.out _
        have hk9 : ∀ k, k ≠ g10 → (u8.setCell ⟨g10, 10, none⟩ (.slice sA n scap)).heap[k]? = u1.heap[k]? := fun k hk => (Below.heap_setCell _ _ _ _ (by simpa using hk)).trans (HKEEP.out k hk)
        have hb9 : Below w.heap.size w (u8.setCell ⟨g10, 10, none⟩ (.slice sA n scap)) := HBEL.out.setCell (by have := HGL.out; have := HZ2.out; simp; omega) _
        generalize u8.setCell ⟨g10, 10, none⟩ (.slice sA n scap) = u9 at *
        have hr1 := (hk9 (w.heap.size + 1) (by have := HGL.out; have := HZ2.out; omega)).trans X1U.out
        have d0 := row_cell s9 0
        have d1 := row_cell s9 1
        have d2 := row_cell s9 2
        have d3 := row_cell s9 3
        have d4 := row_cell s9 4
        have d5 := row_cell s9 5
        have d6 := row_cell s9 6
        have d7 := row_cell s9 7
        have d8 := row_cell s9 8
        have d9 := row_cell s9 9
        have d10 := row_cell s9 10
        simp at d0 d1 d2 d3 d4 d5 d6 d7 d8 d9 d10
        have h1c : (#[.slice pA (q + 1) pcap, .int .i64 en, .int .u64 z0, .int .u64 z1, .int .u64 z2, .int .u64 z3, .int .u64 z4, .int .u64 z5, .int .u64 z6, .int .u64 z7, .slice sA n scap] : Array Value).all (·.oneCell') = true := by simp [Value.oneCell']
        have H1C := Lib.hid h1c
        have HR1 := Lib.hid hr1
        have HK9 := Lib.hid hk9
        have HB9 := Lib.hid hb9
        clear h1c hr1 hk9 hb9 s9 x9 c10 f10
        go_wp2_with (with_reducible refine store_tr (.tmp 6) (.tmp 64) (w.heap.size + 1) #[.slice none 0 0, .int .i64 0, .int .u64 0, .int .u64 0, .int .u64 0, .int .u64 0, .int .u64 0, .int .u64 0, .int .u64 0, .int .u64 0, .slice none 0 0] #[.slice pA (q + 1) pcap, .int .i64 en, .int .u64 z0, .int .u64 z1, .int .u64 z2, .int .u64 z3, .int .u64 z4, .int .u64 z5, .int .u64 z6, .int .u64 z7, .slice sA n scap] HR1.out rfl rfl rfl rfl rfl rfl H1C.out ?_)
        refine ret_tr (w.heap.size + 1) #[.slice pA (q + 1) pcap, .int .i64 en, .int .u64 z0, .int .u64 z1, .int .u64 z2, .int .u64 z3, .int .u64 z4, .int .u64 z5, .int .u64 z6, .int .u64 z7, .slice sA n scap] (.int .i64 0) (setRow_heap _ _ _ _ _ _ HR1.out) rfl rfl rfl rfl rfl ?_
        have hRR := HREQ.out
        subst hRR
        have hml : mm.length = n := HG.out.hml
        have hpl := HG.out.hpl
        obtain ⟨e0, e1, e2, e3, e4, e5, e6, e7⟩ := HZZ.out
        refine ⟨pA, pcap, sA, scap, by simp only [trC, hml, hpl, e0, e1, e2, e3, e4, e5, e6, e7], ?_, ?_, below_setRowM HB9.out (by omega) _⟩
        · simp only [hpl]
          refine InSl.of_own (ownsRow.blk HPU.out fun k hk => ?_)
          have h1 := (HPU.out.lt k hk).1
          have h2 := HZ2.out
          rw [setRow_other _ _ _ _ (by omega)]
          exact HK9.out k (HG.out.dp k hk).2.1
        · simp only [hml]
          refine BySl.of_own (ownsRow.blk HMU.out fun k hk => ?_) HG.out.hok.mb
          have h1 := (HMU.out.lt k hk).1
          rw [setRow_other _ _ _ _ (by omega)]
          exact HK9.out k (HG.out.dm k hk).2
    case neg =>
      have hqe : q = N := by omega
      have hgo := hg.hgo
      rw [hqe, Nat.sub_self] at hgo
      have hreq : (path, s, (0 : Int)) = R := hgo
      have HREQ := Lib.hid hreq
      have hr9 := hg.r9
      have HPU := Lib.hid hg.op
      have HMU := Lib.hid hg.om
      have HBU := Lib.hid HB.out
      have X1U := Lib.hid HX.out.2
      obtain ⟨pl, rg, mm, op⟩ := s
      simp only [stC] at hr9
      generalize hol : op.length = ol at hr9
      obtain ⟨z0, hz0⟩ : ∃ z, rg.getD 0 0 = z := ⟨_, rfl⟩
      obtain ⟨z1, hz1⟩ : ∃ z, rg.getD 1 0 = z := ⟨_, rfl⟩
      obtain ⟨z2, hz2⟩ : ∃ z, rg.getD 2 0 = z := ⟨_, rfl⟩
      obtain ⟨z3, hz3⟩ : ∃ z, rg.getD 3 0 = z := ⟨_, rfl⟩
      obtain ⟨z4, hz4⟩ : ∃ z, rg.getD 4 0 = z := ⟨_, rfl⟩
      obtain ⟨z5, hz5⟩ : ∃ z, rg.getD 5 0 = z := ⟨_, rfl⟩
      obtain ⟨z6, hz6⟩ : ∃ z, rg.getD 6 0 = z := ⟨_, rfl⟩
      obtain ⟨z7, hz7⟩ : ∃ z, rg.getD 7 0 = z := ⟨_, rfl⟩
      simp only [hz0, hz1, hz2, hz3, hz4, hz5, hz6, hz7] at hr9
      have HZZ := Lib.hid (And.intro hz0 (And.intro hz1 (And.intro hz2 (And.intro hz3 (And.intro hz4 (And.intro hz5 (And.intro hz6 (hz7))))))))
      have R9 := Lib.hid hr9
      have R10 := Lib.hid hg.r10
      clear hgo hreq hqe hr9 hol hz0 hz1 hz2 hz3 hz4 hz5 hz6 hz7 hNT hqN hg
      by_cases hq1 : (q : Int) < steps
      · have hq2 : ¬ (q : Int) < 4096 := fun h => hqs ⟨hq1, h⟩
        clear hqs
        have x0 := row_cell R9.out 0
        have x1 := row_cell R9.out 1
        have x2 := row_cell R9.out 2
        have x3 := row_cell R9.out 3
        have x4 := row_cell R9.out 4
        have x5 := row_cell R9.out 5
        have x6 := row_cell R9.out 6
        have x7 := row_cell R9.out 7
        have x8 := row_cell R9.out 8
        have x9 := row_cell R9.out 9
        have x10 := row_cell R9.out 10
        simp at x0 x1 x2 x3 x4 x5 x6 x7 x8 x9 x10
        have c0 := row_cell R10.out 0
        have c1 := row_cell R10.out 1
        have c2 := row_cell R10.out 2
        have c3 := row_cell R10.out 3
        have c4 := row_cell R10.out 4
        have c5 := row_cell R10.out 5
        have c6 := row_cell R10.out 6
        have c7 := row_cell R10.out 7
        have c8 := row_cell R10.out 8
        have c9 := row_cell R10.out 9
        have c10 := row_cell R10.out 10
        simp at c0 c1 c2 c3 c4 c5 c6 c7 c8 c9 c10
        have f2 := Joins.unfrozen_of_block R10.out 2
        have f3 := Joins.unfrozen_of_block R10.out 3
        have f4 := Joins.unfrozen_of_block R10.out 4
        have f5 := Joins.unfrozen_of_block R10.out 5
        have f6 := Joins.unfrozen_of_block R10.out 6
        have f7 := Joins.unfrozen_of_block R10.out 7
        have f8 := Joins.unfrozen_of_block R10.out 8
        have f9 := Joins.unfrozen_of_block R10.out 9
        have f10 := Joins.unfrozen_of_block R10.out 10
        go_upto_region 17 with (fail)
        have s0 : (wr.setCell ⟨g10, 2, none⟩ (.int .u64 z0)).heap[g10]? = some (.cells #[.slice pA (q + 1) pcap, .int .i64 0, .int .u64 z0, .int .u64 0, .int .u64 0, .int .u64 0, .int .u64 0, .int .u64 0, .int .u64 0, .int .u64 0, .slice none 0 0] 32 (0, 0)) := Joins.block_setCell R10.out _
        have s1 : ((wr.setCell ⟨g10, 2, none⟩ (.int .u64 z0)).setCell ⟨g10, 3, none⟩ (.int .u64 z1)).heap[g10]? = some (.cells #[.slice pA (q + 1) pcap, .int .i64 0, .int .u64 z0, .int .u64 z1, .int .u64 0, .int .u64 0, .int .u64 0, .int .u64 0, .int .u64 0, .int .u64 0, .slice none 0 0] 32 (0, 0)) := Joins.block_setCell s0 _
        have s2 : (((wr.setCell ⟨g10, 2, none⟩ (.int .u64 z0)).setCell ⟨g10, 3, none⟩ (.int .u64 z1)).setCell ⟨g10, 4, none⟩ (.int .u64 z2)).heap[g10]? = some (.cells #[.slice pA (q + 1) pcap, .int .i64 0, .int .u64 z0, .int .u64 z1, .int .u64 z2, .int .u64 0, .int .u64 0, .int .u64 0, .int .u64 0, .int .u64 0, .slice none 0 0] 32 (0, 0)) := Joins.block_setCell s1 _
        have s3 : ((((wr.setCell ⟨g10, 2, none⟩ (.int .u64 z0)).setCell ⟨g10, 3, none⟩ (.int .u64 z1)).setCell ⟨g10, 4, none⟩ (.int .u64 z2)).setCell ⟨g10, 5, none⟩ (.int .u64 z3)).heap[g10]? = some (.cells #[.slice pA (q + 1) pcap, .int .i64 0, .int .u64 z0, .int .u64 z1, .int .u64 z2, .int .u64 z3, .int .u64 0, .int .u64 0, .int .u64 0, .int .u64 0, .slice none 0 0] 32 (0, 0)) := Joins.block_setCell s2 _
        have s4 : (((((wr.setCell ⟨g10, 2, none⟩ (.int .u64 z0)).setCell ⟨g10, 3, none⟩ (.int .u64 z1)).setCell ⟨g10, 4, none⟩ (.int .u64 z2)).setCell ⟨g10, 5, none⟩ (.int .u64 z3)).setCell ⟨g10, 6, none⟩ (.int .u64 z4)).heap[g10]? = some (.cells #[.slice pA (q + 1) pcap, .int .i64 0, .int .u64 z0, .int .u64 z1, .int .u64 z2, .int .u64 z3, .int .u64 z4, .int .u64 0, .int .u64 0, .int .u64 0, .slice none 0 0] 32 (0, 0)) := Joins.block_setCell s3 _
        have s5 : ((((((wr.setCell ⟨g10, 2, none⟩ (.int .u64 z0)).setCell ⟨g10, 3, none⟩ (.int .u64 z1)).setCell ⟨g10, 4, none⟩ (.int .u64 z2)).setCell ⟨g10, 5, none⟩ (.int .u64 z3)).setCell ⟨g10, 6, none⟩ (.int .u64 z4)).setCell ⟨g10, 7, none⟩ (.int .u64 z5)).heap[g10]? = some (.cells #[.slice pA (q + 1) pcap, .int .i64 0, .int .u64 z0, .int .u64 z1, .int .u64 z2, .int .u64 z3, .int .u64 z4, .int .u64 z5, .int .u64 0, .int .u64 0, .slice none 0 0] 32 (0, 0)) := Joins.block_setCell s4 _
        have s6 : (((((((wr.setCell ⟨g10, 2, none⟩ (.int .u64 z0)).setCell ⟨g10, 3, none⟩ (.int .u64 z1)).setCell ⟨g10, 4, none⟩ (.int .u64 z2)).setCell ⟨g10, 5, none⟩ (.int .u64 z3)).setCell ⟨g10, 6, none⟩ (.int .u64 z4)).setCell ⟨g10, 7, none⟩ (.int .u64 z5)).setCell ⟨g10, 8, none⟩ (.int .u64 z6)).heap[g10]? = some (.cells #[.slice pA (q + 1) pcap, .int .i64 0, .int .u64 z0, .int .u64 z1, .int .u64 z2, .int .u64 z3, .int .u64 z4, .int .u64 z5, .int .u64 z6, .int .u64 0, .slice none 0 0] 32 (0, 0)) := Joins.block_setCell s5 _
        have s7 : ((((((((wr.setCell ⟨g10, 2, none⟩ (.int .u64 z0)).setCell ⟨g10, 3, none⟩ (.int .u64 z1)).setCell ⟨g10, 4, none⟩ (.int .u64 z2)).setCell ⟨g10, 5, none⟩ (.int .u64 z3)).setCell ⟨g10, 6, none⟩ (.int .u64 z4)).setCell ⟨g10, 7, none⟩ (.int .u64 z5)).setCell ⟨g10, 8, none⟩ (.int .u64 z6)).setCell ⟨g10, 9, none⟩ (.int .u64 z7)).heap[g10]? = some (.cells #[.slice pA (q + 1) pcap, .int .i64 0, .int .u64 z0, .int .u64 z1, .int .u64 z2, .int .u64 z3, .int .u64 z4, .int .u64 z5, .int .u64 z6, .int .u64 z7, .slice none 0 0] 32 (0, 0)) := Joins.block_setCell s6 _
        have hkeep : ∀ k, k ≠ g10 → ((((((((wr.setCell ⟨g10, 2, none⟩ (.int .u64 z0)).setCell ⟨g10, 3, none⟩ (.int .u64 z1)).setCell ⟨g10, 4, none⟩ (.int .u64 z2)).setCell ⟨g10, 5, none⟩ (.int .u64 z3)).setCell ⟨g10, 6, none⟩ (.int .u64 z4)).setCell ⟨g10, 7, none⟩ (.int .u64 z5)).setCell ⟨g10, 8, none⟩ (.int .u64 z6)).setCell ⟨g10, 9, none⟩ (.int .u64 z7)).heap[k]? = wr.heap[k]? := fun k hk => (Below.heap_setCell _ _ _ _ (by simpa using hk)).trans ((Below.heap_setCell _ _ _ _ (by simpa using hk)).trans ((Below.heap_setCell _ _ _ _ (by simpa using hk)).trans ((Below.heap_setCell _ _ _ _ (by simpa using hk)).trans ((Below.heap_setCell _ _ _ _ (by simpa using hk)).trans ((Below.heap_setCell _ _ _ _ (by simpa using hk)).trans ((Below.heap_setCell _ _ _ _ (by simpa using hk)).trans ((Below.heap_setCell _ _ _ _ (by simpa using hk)).trans (rfl))))))))
        have hbel : Below w.heap.size w ((((((((wr.setCell ⟨g10, 2, none⟩ (.int .u64 z0)).setCell ⟨g10, 3, none⟩ (.int .u64 z1)).setCell ⟨g10, 4, none⟩ (.int .u64 z2)).setCell ⟨g10, 5, none⟩ (.int .u64 z3)).setCell ⟨g10, 6, none⟩ (.int .u64 z4)).setCell ⟨g10, 7, none⟩ (.int .u64 z5)).setCell ⟨g10, 8, none⟩ (.int .u64 z6)).setCell ⟨g10, 9, none⟩ (.int .u64 z7)) := ((((((((HBU.out.setCell (by have := HGL.out; have := HZ2.out; simp; omega) _).setCell (by have := HGL.out; have := HZ2.out; simp; omega) _).setCell (by have := HGL.out; have := HZ2.out; simp; omega) _).setCell (by have := HGL.out; have := HZ2.out; simp; omega) _).setCell (by have := HGL.out; have := HZ2.out; simp; omega) _).setCell (by have := HGL.out; have := HZ2.out; simp; omega) _).setCell (by have := HGL.out; have := HZ2.out; simp; omega) _).setCell (by have := HGL.out; have := HZ2.out; simp; omega) _)
        generalize ((((((((wr.setCell ⟨g10, 2, none⟩ (.int .u64 z0)).setCell ⟨g10, 3, none⟩ (.int .u64 z1)).setCell ⟨g10, 4, none⟩ (.int .u64 z2)).setCell ⟨g10, 5, none⟩ (.int .u64 z3)).setCell ⟨g10, 6, none⟩ (.int .u64 z4)).setCell ⟨g10, 7, none⟩ (.int .u64 z5)).setCell ⟨g10, 8, none⟩ (.int .u64 z6)).setCell ⟨g10, 9, none⟩ (.int .u64 z7)) = u8 at *
        have S7 := Lib.hid s7
        have HKEEP := Lib.hid hkeep
        have HBEL := Lib.hid hbel
        have r9 := (hkeep g9 (by have := HGL.out; omega)).trans R9.out
        clear s0 s1 s2 s3 s4 s5 s6 s7 hkeep hbel x0 x1 x2 x3 x4 x5 x6 x7 x8 x9 x10 c0 c1 c2 c3 c4 c5 c6 c7 c8 c9 c10 f2 f3 f4 f5 f6 f7 f8 f9 f10
        have x9 := row_cell r9 9
        have c10 := row_cell S7.out 10
        have f10 := Joins.unfrozen_of_block S7.out 10
        simp at x9 c10
        clear r9
        go_upto_region 18 with (fail)
        have s9 : (u8.setCell ⟨g10, 10, none⟩ (.slice sA n scap)).heap[g10]? = some (.cells #[.slice pA (q + 1) pcap, .int .i64 0, .int .u64 z0, .int .u64 z1, .int .u64 z2, .int .u64 z3, .int .u64 z4, .int .u64 z5, .int .u64 z6, .int .u64 z7, .slice sA n scap] 32 (0, 0)) := Joins.block_setCell S7.out _
        have hk9 : ∀ k, k ≠ g10 → (u8.setCell ⟨g10, 10, none⟩ (.slice sA n scap)).heap[k]? = wr.heap[k]? := fun k hk => (Below.heap_setCell _ _ _ _ (by simpa using hk)).trans (HKEEP.out k hk)
        have hb9 : Below w.heap.size w (u8.setCell ⟨g10, 10, none⟩ (.slice sA n scap)) := HBEL.out.setCell (by have := HGL.out; have := HZ2.out; simp; omega) _
        generalize u8.setCell ⟨g10, 10, none⟩ (.slice sA n scap) = u9 at *
        have hr1 := (hk9 (w.heap.size + 1) (by have := HGL.out; have := HZ2.out; omega)).trans X1U.out
        have d0 := row_cell s9 0
        have d1 := row_cell s9 1
        have d2 := row_cell s9 2
        have d3 := row_cell s9 3
        have d4 := row_cell s9 4
        have d5 := row_cell s9 5
        have d6 := row_cell s9 6
        have d7 := row_cell s9 7
        have d8 := row_cell s9 8
        have d9 := row_cell s9 9
        have d10 := row_cell s9 10
        simp at d0 d1 d2 d3 d4 d5 d6 d7 d8 d9 d10
        have h1c : (#[.slice pA (q + 1) pcap, .int .i64 0, .int .u64 z0, .int .u64 z1, .int .u64 z2, .int .u64 z3, .int .u64 z4, .int .u64 z5, .int .u64 z6, .int .u64 z7, .slice sA n scap] : Array Value).all (·.oneCell') = true := by simp [Value.oneCell']
        have H1C := Lib.hid h1c
        have HR1 := Lib.hid hr1
        have HK9 := Lib.hid hk9
        have HB9 := Lib.hid hb9
        clear h1c hr1 hk9 hb9 s9 x9 c10 f10
        go_wp2_with (with_reducible refine store_tr (.tmp 6) (.tmp 64) (w.heap.size + 1) #[.slice none 0 0, .int .i64 0, .int .u64 0, .int .u64 0, .int .u64 0, .int .u64 0, .int .u64 0, .int .u64 0, .int .u64 0, .int .u64 0, .slice none 0 0] #[.slice pA (q + 1) pcap, .int .i64 0, .int .u64 z0, .int .u64 z1, .int .u64 z2, .int .u64 z3, .int .u64 z4, .int .u64 z5, .int .u64 z6, .int .u64 z7, .slice sA n scap] HR1.out rfl rfl rfl rfl rfl rfl H1C.out ?_)
        refine ret_tr (w.heap.size + 1) #[.slice pA (q + 1) pcap, .int .i64 0, .int .u64 z0, .int .u64 z1, .int .u64 z2, .int .u64 z3, .int .u64 z4, .int .u64 z5, .int .u64 z6, .int .u64 z7, .slice sA n scap] (.int .i64 0) (setRow_heap _ _ _ _ _ _ HR1.out) rfl rfl rfl rfl rfl ?_
        have hRR := HREQ.out
        subst hRR
        have hml : mm.length = n := HG.out.hml
        have hpl := HG.out.hpl
        obtain ⟨e0, e1, e2, e3, e4, e5, e6, e7⟩ := HZZ.out
        refine ⟨pA, pcap, sA, scap, by simp only [trC, hml, hpl, e0, e1, e2, e3, e4, e5, e6, e7], ?_, ?_, below_setRowM HB9.out (by omega) _⟩
        · simp only [hpl]
          refine InSl.of_own (ownsRow.blk HPU.out fun k hk => ?_)
          have h1 := (HPU.out.lt k hk).1
          have h2 := HZ2.out
          rw [setRow_other _ _ _ _ (by omega)]
          exact HK9.out k (HG.out.dp k hk).2.1
        · simp only [hml]
          refine BySl.of_own (ownsRow.blk HMU.out fun k hk => ?_) HG.out.hok.mb
          have h1 := (HMU.out.lt k hk).1
          rw [setRow_other _ _ _ _ (by omega)]
          exact HK9.out k (HG.out.dm k hk).2
      · clear hqs
        have x0 := row_cell R9.out 0
        have x1 := row_cell R9.out 1
        have x2 := row_cell R9.out 2
        have x3 := row_cell R9.out 3
        have x4 := row_cell R9.out 4
        have x5 := row_cell R9.out 5
        have x6 := row_cell R9.out 6
        have x7 := row_cell R9.out 7
        have x8 := row_cell R9.out 8
        have x9 := row_cell R9.out 9
        have x10 := row_cell R9.out 10
        simp at x0 x1 x2 x3 x4 x5 x6 x7 x8 x9 x10
        have c0 := row_cell R10.out 0
        have c1 := row_cell R10.out 1
        have c2 := row_cell R10.out 2
        have c3 := row_cell R10.out 3
        have c4 := row_cell R10.out 4
        have c5 := row_cell R10.out 5
        have c6 := row_cell R10.out 6
        have c7 := row_cell R10.out 7
        have c8 := row_cell R10.out 8
        have c9 := row_cell R10.out 9
        have c10 := row_cell R10.out 10
        simp at c0 c1 c2 c3 c4 c5 c6 c7 c8 c9 c10
        have f2 := Joins.unfrozen_of_block R10.out 2
        have f3 := Joins.unfrozen_of_block R10.out 3
        have f4 := Joins.unfrozen_of_block R10.out 4
        have f5 := Joins.unfrozen_of_block R10.out 5
        have f6 := Joins.unfrozen_of_block R10.out 6
        have f7 := Joins.unfrozen_of_block R10.out 7
        have f8 := Joins.unfrozen_of_block R10.out 8
        have f9 := Joins.unfrozen_of_block R10.out 9
        have f10 := Joins.unfrozen_of_block R10.out 10
        go_upto_region 17 with (fail)
        have s0 : (wr.setCell ⟨g10, 2, none⟩ (.int .u64 z0)).heap[g10]? = some (.cells #[.slice pA (q + 1) pcap, .int .i64 0, .int .u64 z0, .int .u64 0, .int .u64 0, .int .u64 0, .int .u64 0, .int .u64 0, .int .u64 0, .int .u64 0, .slice none 0 0] 32 (0, 0)) := Joins.block_setCell R10.out _
        have s1 : ((wr.setCell ⟨g10, 2, none⟩ (.int .u64 z0)).setCell ⟨g10, 3, none⟩ (.int .u64 z1)).heap[g10]? = some (.cells #[.slice pA (q + 1) pcap, .int .i64 0, .int .u64 z0, .int .u64 z1, .int .u64 0, .int .u64 0, .int .u64 0, .int .u64 0, .int .u64 0, .int .u64 0, .slice none 0 0] 32 (0, 0)) := Joins.block_setCell s0 _
        have s2 : (((wr.setCell ⟨g10, 2, none⟩ (.int .u64 z0)).setCell ⟨g10, 3, none⟩ (.int .u64 z1)).setCell ⟨g10, 4, none⟩ (.int .u64 z2)).heap[g10]? = some (.cells #[.slice pA (q + 1) pcap, .int .i64 0, .int .u64 z0, .int .u64 z1, .int .u64 z2, .int .u64 0, .int .u64 0, .int .u64 0, .int .u64 0, .int .u64 0, .slice none 0 0] 32 (0, 0)) := Joins.block_setCell s1 _
        have s3 : ((((wr.setCell ⟨g10, 2, none⟩ (.int .u64 z0)).setCell ⟨g10, 3, none⟩ (.int .u64 z1)).setCell ⟨g10, 4, none⟩ (.int .u64 z2)).setCell ⟨g10, 5, none⟩ (.int .u64 z3)).heap[g10]? = some (.cells #[.slice pA (q + 1) pcap, .int .i64 0, .int .u64 z0, .int .u64 z1, .int .u64 z2, .int .u64 z3, .int .u64 0, .int .u64 0, .int .u64 0, .int .u64 0, .slice none 0 0] 32 (0, 0)) := Joins.block_setCell s2 _
        have s4 : (((((wr.setCell ⟨g10, 2, none⟩ (.int .u64 z0)).setCell ⟨g10, 3, none⟩ (.int .u64 z1)).setCell ⟨g10, 4, none⟩ (.int .u64 z2)).setCell ⟨g10, 5, none⟩ (.int .u64 z3)).setCell ⟨g10, 6, none⟩ (.int .u64 z4)).heap[g10]? = some (.cells #[.slice pA (q + 1) pcap, .int .i64 0, .int .u64 z0, .int .u64 z1, .int .u64 z2, .int .u64 z3, .int .u64 z4, .int .u64 0, .int .u64 0, .int .u64 0, .slice none 0 0] 32 (0, 0)) := Joins.block_setCell s3 _
        have s5 : ((((((wr.setCell ⟨g10, 2, none⟩ (.int .u64 z0)).setCell ⟨g10, 3, none⟩ (.int .u64 z1)).setCell ⟨g10, 4, none⟩ (.int .u64 z2)).setCell ⟨g10, 5, none⟩ (.int .u64 z3)).setCell ⟨g10, 6, none⟩ (.int .u64 z4)).setCell ⟨g10, 7, none⟩ (.int .u64 z5)).heap[g10]? = some (.cells #[.slice pA (q + 1) pcap, .int .i64 0, .int .u64 z0, .int .u64 z1, .int .u64 z2, .int .u64 z3, .int .u64 z4, .int .u64 z5, .int .u64 0, .int .u64 0, .slice none 0 0] 32 (0, 0)) := Joins.block_setCell s4 _
        have s6 : (((((((wr.setCell ⟨g10, 2, none⟩ (.int .u64 z0)).setCell ⟨g10, 3, none⟩ (.int .u64 z1)).setCell ⟨g10, 4, none⟩ (.int .u64 z2)).setCell ⟨g10, 5, none⟩ (.int .u64 z3)).setCell ⟨g10, 6, none⟩ (.int .u64 z4)).setCell ⟨g10, 7, none⟩ (.int .u64 z5)).setCell ⟨g10, 8, none⟩ (.int .u64 z6)).heap[g10]? = some (.cells #[.slice pA (q + 1) pcap, .int .i64 0, .int .u64 z0, .int .u64 z1, .int .u64 z2, .int .u64 z3, .int .u64 z4, .int .u64 z5, .int .u64 z6, .int .u64 0, .slice none 0 0] 32 (0, 0)) := Joins.block_setCell s5 _
        have s7 : ((((((((wr.setCell ⟨g10, 2, none⟩ (.int .u64 z0)).setCell ⟨g10, 3, none⟩ (.int .u64 z1)).setCell ⟨g10, 4, none⟩ (.int .u64 z2)).setCell ⟨g10, 5, none⟩ (.int .u64 z3)).setCell ⟨g10, 6, none⟩ (.int .u64 z4)).setCell ⟨g10, 7, none⟩ (.int .u64 z5)).setCell ⟨g10, 8, none⟩ (.int .u64 z6)).setCell ⟨g10, 9, none⟩ (.int .u64 z7)).heap[g10]? = some (.cells #[.slice pA (q + 1) pcap, .int .i64 0, .int .u64 z0, .int .u64 z1, .int .u64 z2, .int .u64 z3, .int .u64 z4, .int .u64 z5, .int .u64 z6, .int .u64 z7, .slice none 0 0] 32 (0, 0)) := Joins.block_setCell s6 _
        have hkeep : ∀ k, k ≠ g10 → ((((((((wr.setCell ⟨g10, 2, none⟩ (.int .u64 z0)).setCell ⟨g10, 3, none⟩ (.int .u64 z1)).setCell ⟨g10, 4, none⟩ (.int .u64 z2)).setCell ⟨g10, 5, none⟩ (.int .u64 z3)).setCell ⟨g10, 6, none⟩ (.int .u64 z4)).setCell ⟨g10, 7, none⟩ (.int .u64 z5)).setCell ⟨g10, 8, none⟩ (.int .u64 z6)).setCell ⟨g10, 9, none⟩ (.int .u64 z7)).heap[k]? = wr.heap[k]? := fun k hk => (Below.heap_setCell _ _ _ _ (by simpa using hk)).trans ((Below.heap_setCell _ _ _ _ (by simpa using hk)).trans ((Below.heap_setCell _ _ _ _ (by simpa using hk)).trans ((Below.heap_setCell _ _ _ _ (by simpa using hk)).trans ((Below.heap_setCell _ _ _ _ (by simpa using hk)).trans ((Below.heap_setCell _ _ _ _ (by simpa using hk)).trans ((Below.heap_setCell _ _ _ _ (by simpa using hk)).trans ((Below.heap_setCell _ _ _ _ (by simpa using hk)).trans (rfl))))))))
        have hbel : Below w.heap.size w ((((((((wr.setCell ⟨g10, 2, none⟩ (.int .u64 z0)).setCell ⟨g10, 3, none⟩ (.int .u64 z1)).setCell ⟨g10, 4, none⟩ (.int .u64 z2)).setCell ⟨g10, 5, none⟩ (.int .u64 z3)).setCell ⟨g10, 6, none⟩ (.int .u64 z4)).setCell ⟨g10, 7, none⟩ (.int .u64 z5)).setCell ⟨g10, 8, none⟩ (.int .u64 z6)).setCell ⟨g10, 9, none⟩ (.int .u64 z7)) := ((((((((HBU.out.setCell (by have := HGL.out; have := HZ2.out; simp; omega) _).setCell (by have := HGL.out; have := HZ2.out; simp; omega) _).setCell (by have := HGL.out; have := HZ2.out; simp; omega) _).setCell (by have := HGL.out; have := HZ2.out; simp; omega) _).setCell (by have := HGL.out; have := HZ2.out; simp; omega) _).setCell (by have := HGL.out; have := HZ2.out; simp; omega) _).setCell (by have := HGL.out; have := HZ2.out; simp; omega) _).setCell (by have := HGL.out; have := HZ2.out; simp; omega) _)
        generalize ((((((((wr.setCell ⟨g10, 2, none⟩ (.int .u64 z0)).setCell ⟨g10, 3, none⟩ (.int .u64 z1)).setCell ⟨g10, 4, none⟩ (.int .u64 z2)).setCell ⟨g10, 5, none⟩ (.int .u64 z3)).setCell ⟨g10, 6, none⟩ (.int .u64 z4)).setCell ⟨g10, 7, none⟩ (.int .u64 z5)).setCell ⟨g10, 8, none⟩ (.int .u64 z6)).setCell ⟨g10, 9, none⟩ (.int .u64 z7)) = u8 at *
        have S7 := Lib.hid s7
        have HKEEP := Lib.hid hkeep
        have HBEL := Lib.hid hbel
        have r9 := (hkeep g9 (by have := HGL.out; omega)).trans R9.out
        clear s0 s1 s2 s3 s4 s5 s6 s7 hkeep hbel x0 x1 x2 x3 x4 x5 x6 x7 x8 x9 x10 c0 c1 c2 c3 c4 c5 c6 c7 c8 c9 c10 f2 f3 f4 f5 f6 f7 f8 f9 f10
        have x9 := row_cell r9 9
        have c10 := row_cell S7.out 10
        have f10 := Joins.unfrozen_of_block S7.out 10
        simp at x9 c10
        clear r9
        go_upto_region 18 with (fail)
        have s9 : (u8.setCell ⟨g10, 10, none⟩ (.slice sA n scap)).heap[g10]? = some (.cells #[.slice pA (q + 1) pcap, .int .i64 0, .int .u64 z0, .int .u64 z1, .int .u64 z2, .int .u64 z3, .int .u64 z4, .int .u64 z5, .int .u64 z6, .int .u64 z7, .slice sA n scap] 32 (0, 0)) := Joins.block_setCell S7.out _
        have hk9 : ∀ k, k ≠ g10 → (u8.setCell ⟨g10, 10, none⟩ (.slice sA n scap)).heap[k]? = wr.heap[k]? := fun k hk => (Below.heap_setCell _ _ _ _ (by simpa using hk)).trans (HKEEP.out k hk)
        have hb9 : Below w.heap.size w (u8.setCell ⟨g10, 10, none⟩ (.slice sA n scap)) := HBEL.out.setCell (by have := HGL.out; have := HZ2.out; simp; omega) _
        generalize u8.setCell ⟨g10, 10, none⟩ (.slice sA n scap) = u9 at *
        have hr1 := (hk9 (w.heap.size + 1) (by have := HGL.out; have := HZ2.out; omega)).trans X1U.out
        have d0 := row_cell s9 0
        have d1 := row_cell s9 1
        have d2 := row_cell s9 2
        have d3 := row_cell s9 3
        have d4 := row_cell s9 4
        have d5 := row_cell s9 5
        have d6 := row_cell s9 6
        have d7 := row_cell s9 7
        have d8 := row_cell s9 8
        have d9 := row_cell s9 9
        have d10 := row_cell s9 10
        simp at d0 d1 d2 d3 d4 d5 d6 d7 d8 d9 d10
        have h1c : (#[.slice pA (q + 1) pcap, .int .i64 0, .int .u64 z0, .int .u64 z1, .int .u64 z2, .int .u64 z3, .int .u64 z4, .int .u64 z5, .int .u64 z6, .int .u64 z7, .slice sA n scap] : Array Value).all (·.oneCell') = true := by simp [Value.oneCell']
        have H1C := Lib.hid h1c
        have HR1 := Lib.hid hr1
        have HK9 := Lib.hid hk9
        have HB9 := Lib.hid hb9
        clear h1c hr1 hk9 hb9 s9 x9 c10 f10
        go_wp2_with (with_reducible refine store_tr (.tmp 6) (.tmp 64) (w.heap.size + 1) #[.slice none 0 0, .int .i64 0, .int .u64 0, .int .u64 0, .int .u64 0, .int .u64 0, .int .u64 0, .int .u64 0, .int .u64 0, .int .u64 0, .slice none 0 0] #[.slice pA (q + 1) pcap, .int .i64 0, .int .u64 z0, .int .u64 z1, .int .u64 z2, .int .u64 z3, .int .u64 z4, .int .u64 z5, .int .u64 z6, .int .u64 z7, .slice sA n scap] HR1.out rfl rfl rfl rfl rfl rfl H1C.out ?_)
        refine ret_tr (w.heap.size + 1) #[.slice pA (q + 1) pcap, .int .i64 0, .int .u64 z0, .int .u64 z1, .int .u64 z2, .int .u64 z3, .int .u64 z4, .int .u64 z5, .int .u64 z6, .int .u64 z7, .slice sA n scap] (.int .i64 0) (setRow_heap _ _ _ _ _ _ HR1.out) rfl rfl rfl rfl rfl ?_
        have hRR := HREQ.out
        subst hRR
        have hml : mm.length = n := HG.out.hml
        have hpl := HG.out.hpl
        obtain ⟨e0, e1, e2, e3, e4, e5, e6, e7⟩ := HZZ.out
        refine ⟨pA, pcap, sA, scap, by simp only [trC, hml, hpl, e0, e1, e2, e3, e4, e5, e6, e7], ?_, ?_, below_setRowM HB9.out (by omega) _⟩
        · simp only [hpl]
          refine InSl.of_own (ownsRow.blk HPU.out fun k hk => ?_)
          have h1 := (HPU.out.lt k hk).1
          have h2 := HZ2.out
          rw [setRow_other _ _ _ _ (by omega)]
          exact HK9.out k (HG.out.dp k hk).2.1
        · simp only [hml]
          refine BySl.of_own (ownsRow.blk HMU.out fun k hk => ?_) HG.out.hok.mb
          have h1 := (HMU.out.lt k hk).1
          rw [setRow_other _ _ _ _ (by omega)]
          exact HK9.out k (HG.out.dm k hk).2
end Go.Proofs.YtfhnigfghfmolaaDoor
namespace Go.Proofs.YtfhnigfghfmolaaDoor
set_option maxRecDepth 100000
open Go.RowKit

set_option maxRecDepth 20000 in
set_option maxHeartbeats 6400000 in
theorem rrun_bad (mem stk inp : Int) (Ad : Option Addr) (ld cd : Nat) (Af : Option Addr) (lf cf : Nat) (Ac : Option Addr) (lc cc : Nat) (Ai : Option Addr) (li ci : Nat) (P : Im.Pic) (xs : List Int) (steps : Int) (w : World) (HA : HdAt w ⟨mem, stk, inp, Ad, ld, cd, Af, lf, cf, Ac, lc, cc, Ai, li, ci, P, xs⟩) (hc : Im.chk P ≠ 0) (hlc : lc ≤ 1000000) (hlf : lf ≤ 1000000) (hld : ld ≤ 1000000) :
    Calls Tryd.prog 13 #[.agg #[.int .i64 mem, .int .i64 stk, .int .i64 inp, .slice Ad ld cd, .slice Af lf cf, .slice Ac lc cc], .slice Ai li ci, .int .i64 steps] w (RunA (Mc.answer P xs steps) w) := by
  have ea : Mc.answer P xs steps = ([], 0, Mc.zero8, [], Im.chk P) := by unfold Mc.answer; rw [if_pos hc]
  rw [ea]
  obtain ⟨himg, he0, he1, he2, hinp⟩ := HA
  simp only at himg he0 he1 he2 hinp
  have hlen := hinp.hlen
  have hck : ∀ W, Below w.heap.size w W → Calls Tryd.prog 31 #[.agg #[.int .i64 mem, .int .i64 stk, .int .i64 inp, .slice Ad ld cd, .slice Af lf cf, .slice Ac lc cc]] W fun e w' => e = .returned (.int .i64 (Im.chk P)) ∧ Below W.heap.size W w' := fun W hW' => by
    have := rcheck_any mem stk inp Ad ld cd Af lf cf Ac lc cc P W (himg.below hW') he0 he1 he2 hlc hlf hld
    exact this
  generalize Im.chk P = c at *
  have hcb : (c != 0) = true := by simpa using hc
  clear hc
  have HCK := Lib.hid hck
  clear hck ea hlen he0 he1 he2 himg hinp hlc hlf hld
  have hX0 : ((w.alloc (.cells #[.int .i64 mem, .int .i64 stk, .int .i64 inp, .slice Ad ld cd, .slice Af lf cf, .slice Ac lc cc] 26)).alloc (.cells #[.slice none 0 0, .int .i64 0, .int .u64 0, .int .u64 0, .int .u64 0, .int .u64 0, .int .u64 0, .int .u64 0, .int .u64 0, .int .u64 0, .slice none 0 0] 32)).heap[w.heap.size]? = some (.cells #[.int .i64 mem, .int .i64 stk, .int .i64 inp, .slice Ad ld cd, .slice Af lf cf, .slice Ac lc cc] 26 (0, 0)) := ((Below.box _ _).block _ (by simp)).trans (heap_newM rfl)
  have hX1 : ((w.alloc (.cells #[.int .i64 mem, .int .i64 stk, .int .i64 inp, .slice Ad ld cd, .slice Af lf cf, .slice Ac lc cc] 26)).alloc (.cells #[.slice none 0 0, .int .i64 0, .int .u64 0, .int .u64 0, .int .u64 0, .int .u64 0, .int .u64 0, .int .u64 0, .int .u64 0, .int .u64 0, .slice none 0 0] 32)).heap[w.heap.size + 1]? = some (.cells #[.slice none 0 0, .int .i64 0, .int .u64 0, .int .u64 0, .int .u64 0, .int .u64 0, .int .u64 0, .int .u64 0, .int .u64 0, .int .u64 0, .slice none 0 0] 32 (0, 0)) := heap_newM (by simp)
  have hB0 : Below w.heap.size w ((w.alloc (.cells #[.int .i64 mem, .int .i64 stk, .int .i64 inp, .slice Ad ld cd, .slice Af lf cf, .slice Ac lc cc] 26)).alloc (.cells #[.slice none 0 0, .int .i64 0, .int .u64 0, .int .u64 0, .int .u64 0, .int .u64 0, .int .u64 0, .int .u64 0, .int .u64 0, .int .u64 0, .slice none 0 0] 32)) := ((Below.refl _ _).alloc (Nat.le_refl _) _).alloc (by simp) _
  have hz0 : ((w.alloc (.cells #[.int .i64 mem, .int .i64 stk, .int .i64 inp, .slice Ad ld cd, .slice Af lf cf, .slice Ac lc cc] 26)).alloc (.cells #[.slice none 0 0, .int .i64 0, .int .u64 0, .int .u64 0, .int .u64 0, .int .u64 0, .int .u64 0, .int .u64 0, .int .u64 0, .int .u64 0, .slice none 0 0] 32)).heap.size = w.heap.size + 2 := by simp
  have h1c : (#[.slice none 0 0, .int .i64 0, .int .u64 0, .int .u64 0, .int .u64 0, .int .u64 0, .int .u64 0, .int .u64 0, .int .u64 0, .int .u64 0, .slice none 0 0] : Array Value).all (·.oneCell') = true := by simp [Value.oneCell']
  have H1C := Lib.hid h1c
  clear h1c
  go_enter Tryd.func13, Tryd.ntmps13
  go_wp2_with fail
  generalize ((w.alloc (.cells #[.int .i64 mem, .int .i64 stk, .int .i64 inp, .slice Ad ld cd, .slice Af lf cf, .slice Ac lc cc] 26)).alloc (.cells #[.slice none 0 0, .int .i64 0, .int .u64 0, .int .u64 0, .int .u64 0, .int .u64 0, .int .u64 0, .int .u64 0, .int .u64 0, .int .u64 0, .slice none 0 0] 32)) = w0 at *
  refine (HCK.out _ hB0).mono ?_
  rintro e v1 ⟨rfl, hb⟩
  have HX1 := Lib.hid (And.intro ((hb.block _ (by omega)).trans hX0) ((hb.block _ (by omega)).trans hX1))
  have HB1 := Lib.hid (hB0.trans (hb.mono hB0.size))
  clear hB0 hX0 hX1 hz0 hb
  have q0 := row_cell HX1.out.1 0
  have q1 := row_cell HX1.out.1 1
  have q2 := row_cell HX1.out.1 2
  have q3 := row_cell HX1.out.1 3
  have q4 := row_cell HX1.out.1 4
  have q5 := row_cell HX1.out.1 5
  simp at q0 q1 q2 q3 q4 q5
  go_wp2_with (with_reducible refine store_tr (.tmp 6) (.tmp 18) (w.heap.size + 1) #[.slice none 0 0, .int .i64 0, .int .u64 0, .int .u64 0, .int .u64 0, .int .u64 0, .int .u64 0, .int .u64 0, .int .u64 0, .int .u64 0, .slice none 0 0] #[.slice none 0 0, .int .i64 0, .int .u64 0, .int .u64 0, .int .u64 0, .int .u64 0, .int .u64 0, .int .u64 0, .int .u64 0, .int .u64 0, .slice none 0 0] HX1.out.2 rfl rfl rfl rfl rfl rfl H1C.out ?_)
  refine ret_tr (w.heap.size + 1) #[.slice none 0 0, .int .i64 0, .int .u64 0, .int .u64 0, .int .u64 0, .int .u64 0, .int .u64 0, .int .u64 0, .int .u64 0, .int .u64 0, .slice none 0 0] (.int .i64 c) (setRow_heap _ _ _ _ _ _ HX1.out.2) rfl rfl rfl rfl rfl ?_
  exact ⟨none, 0, none, 0, rfl, InSl.nil, BySl.nil, below_setRowM HB1.out (by omega) _⟩

set_option maxRecDepth 20000 in
set_option maxHeartbeats 6400000 in
theorem rrun_long (mem stk inp : Int) (Ad : Option Addr) (ld cd : Nat) (Af : Option Addr) (lf cf : Nat) (Ac : Option Addr) (lc cc : Nat) (Ai : Option Addr) (li ci : Nat) (P : Im.Pic) (xs : List Int) (steps : Int) (w : World) (HA : HdAt w ⟨mem, stk, inp, Ad, ld, cd, Af, lf, cf, Ac, lc, cc, Ai, li, ci, P, xs⟩) (hc : Im.chk P = 0) (hl : P.inp < xs.length) (hlc : lc ≤ 1000000) (hlf : lf ≤ 1000000) (hld : ld ≤ 1000000) :
    Calls Tryd.prog 13 #[.agg #[.int .i64 mem, .int .i64 stk, .int .i64 inp, .slice Ad ld cd, .slice Af lf cf, .slice Ac lc cc], .slice Ai li ci, .int .i64 steps] w (RunA (Mc.answer P xs steps) w) := by
  have ea : Mc.answer P xs steps = ([], 0, Mc.zero8, [], 16) := by unfold Mc.answer; rw [if_neg (by simpa using hc), if_pos hl]
  rw [ea]
  obtain ⟨himg, he0, he1, he2, hinp⟩ := HA
  simp only at himg he0 he1 he2 hinp
  have hlen := hinp.hlen
  have hck : ∀ W, Below w.heap.size w W → Calls Tryd.prog 31 #[.agg #[.int .i64 mem, .int .i64 stk, .int .i64 inp, .slice Ad ld cd, .slice Af lf cf, .slice Ac lc cc]] W fun e w' => e = .returned (.int .i64 0) ∧ Below W.heap.size W w' := fun W hW' => by
    have := rcheck_any mem stk inp Ad ld cd Af lf cf Ac lc cc P W (himg.below hW') he0 he1 he2 hlc hlf hld
    rwa [hc] at this
  have hin : inp < (li : Int) := by omega
  clear hc hl
  have HCK := Lib.hid hck
  clear hck ea hlen he0 he1 he2 himg hinp hlc hlf hld
  have hX0 : ((w.alloc (.cells #[.int .i64 mem, .int .i64 stk, .int .i64 inp, .slice Ad ld cd, .slice Af lf cf, .slice Ac lc cc] 26)).alloc (.cells #[.slice none 0 0, .int .i64 0, .int .u64 0, .int .u64 0, .int .u64 0, .int .u64 0, .int .u64 0, .int .u64 0, .int .u64 0, .int .u64 0, .slice none 0 0] 32)).heap[w.heap.size]? = some (.cells #[.int .i64 mem, .int .i64 stk, .int .i64 inp, .slice Ad ld cd, .slice Af lf cf, .slice Ac lc cc] 26 (0, 0)) := ((Below.box _ _).block _ (by simp)).trans (heap_newM rfl)
  have hX1 : ((w.alloc (.cells #[.int .i64 mem, .int .i64 stk, .int .i64 inp, .slice Ad ld cd, .slice Af lf cf, .slice Ac lc cc] 26)).alloc (.cells #[.slice none 0 0, .int .i64 0, .int .u64 0, .int .u64 0, .int .u64 0, .int .u64 0, .int .u64 0, .int .u64 0, .int .u64 0, .int .u64 0, .slice none 0 0] 32)).heap[w.heap.size + 1]? = some (.cells #[.slice none 0 0, .int .i64 0, .int .u64 0, .int .u64 0, .int .u64 0, .int .u64 0, .int .u64 0, .int .u64 0, .int .u64 0, .int .u64 0, .slice none 0 0] 32 (0, 0)) := heap_newM (by simp)
  have hB0 : Below w.heap.size w ((w.alloc (.cells #[.int .i64 mem, .int .i64 stk, .int .i64 inp, .slice Ad ld cd, .slice Af lf cf, .slice Ac lc cc] 26)).alloc (.cells #[.slice none 0 0, .int .i64 0, .int .u64 0, .int .u64 0, .int .u64 0, .int .u64 0, .int .u64 0, .int .u64 0, .int .u64 0, .int .u64 0, .slice none 0 0] 32)) := ((Below.refl _ _).alloc (Nat.le_refl _) _).alloc (by simp) _
  have hz0 : ((w.alloc (.cells #[.int .i64 mem, .int .i64 stk, .int .i64 inp, .slice Ad ld cd, .slice Af lf cf, .slice Ac lc cc] 26)).alloc (.cells #[.slice none 0 0, .int .i64 0, .int .u64 0, .int .u64 0, .int .u64 0, .int .u64 0, .int .u64 0, .int .u64 0, .int .u64 0, .int .u64 0, .slice none 0 0] 32)).heap.size = w.heap.size + 2 := by simp
  have h1c : (#[.slice none 0 0, .int .i64 0, .int .u64 0, .int .u64 0, .int .u64 0, .int .u64 0, .int .u64 0, .int .u64 0, .int .u64 0, .int .u64 0, .slice none 0 0] : Array Value).all (·.oneCell') = true := by simp [Value.oneCell']
  have H1C := Lib.hid h1c
  clear h1c
  go_enter Tryd.func13, Tryd.ntmps13
  go_wp2_with fail
  generalize ((w.alloc (.cells #[.int .i64 mem, .int .i64 stk, .int .i64 inp, .slice Ad ld cd, .slice Af lf cf, .slice Ac lc cc] 26)).alloc (.cells #[.slice none 0 0, .int .i64 0, .int .u64 0, .int .u64 0, .int .u64 0, .int .u64 0, .int .u64 0, .int .u64 0, .int .u64 0, .int .u64 0, .slice none 0 0] 32)) = w0 at *
  refine (HCK.out _ hB0).mono ?_
  rintro e v1 ⟨rfl, hb⟩
  have HX1 := Lib.hid (And.intro ((hb.block _ (by omega)).trans hX0) ((hb.block _ (by omega)).trans hX1))
  have HB1 := Lib.hid (hB0.trans (hb.mono hB0.size))
  clear hB0 hX0 hX1 hz0 hb
  have q0 := row_cell HX1.out.1 0
  have q1 := row_cell HX1.out.1 1
  have q2 := row_cell HX1.out.1 2
  have q3 := row_cell HX1.out.1 3
  have q4 := row_cell HX1.out.1 4
  have q5 := row_cell HX1.out.1 5
  simp at q0 q1 q2 q3 q4 q5
  go_wp2_with (with_reducible refine store_tr (.tmp 6) (.tmp 25) (w.heap.size + 1) #[.slice none 0 0, .int .i64 0, .int .u64 0, .int .u64 0, .int .u64 0, .int .u64 0, .int .u64 0, .int .u64 0, .int .u64 0, .int .u64 0, .slice none 0 0] #[.slice none 0 0, .int .i64 0, .int .u64 0, .int .u64 0, .int .u64 0, .int .u64 0, .int .u64 0, .int .u64 0, .int .u64 0, .int .u64 0, .slice none 0 0] HX1.out.2 rfl rfl rfl rfl rfl rfl H1C.out ?_)
  refine ret_tr (w.heap.size + 1) #[.slice none 0 0, .int .i64 0, .int .u64 0, .int .u64 0, .int .u64 0, .int .u64 0, .int .u64 0, .int .u64 0, .int .u64 0, .int .u64 0, .slice none 0 0] (.int .i64 16) (setRow_heap _ _ _ _ _ _ HX1.out.2) rfl rfl rfl rfl rfl ?_
  exact ⟨none, 0, none, 0, rfl, InSl.nil, BySl.nil, below_setRowM HB1.out (by omega) _⟩

theorem rrun_any (H : Hd) (steps : Int) (w : World) (HA : HdAt w H) (hlc : H.lc ≤ 1000000) (hlf : H.lf ≤ 1000000) (hld : H.ld ≤ 1000000) (hlM : H.li < 1000000) :
    Calls Tryd.prog 13 #[.agg #[.int .i64 H.mem, .int .i64 H.stk, .int .i64 H.inp, .slice H.Ad H.ld H.cd, .slice H.Af H.lf H.cf, .slice H.Ac H.lc H.cc], .slice H.Ai H.li H.ci, .int .i64 steps] w (RunA (Mc.answer H.p H.xs steps) w) := by
  obtain ⟨mem, stk, inp, Ad, ld, cd, Af, lf, cf, Ac, lc, cc, Ai, li, ci, P, xs⟩ := H
  by_cases hc : Im.chk P = 0
  · by_cases hl : P.inp < xs.length
    · exact rrun_long mem stk inp Ad ld cd Af lf cf Ac lc cc Ai li ci P xs steps w HA hc hl hlc hlf hld
    · exact rrun_right mem stk inp Ad ld cd Af lf cf Ac lc cc Ai li ci P xs steps w HA hc (by omega) hlc hlf hld hlM
  · exact rrun_bad mem stk inp Ad ld cd Af lf cf Ac lc cc Ai li ci P xs steps w HA hc hlc hlf hld

set_option maxRecDepth 20000 in
set_option maxHeartbeats 6400000 in
theorem rreach_any (H : Hd) (t steps : Int) (w : World) (HA : HdAt w H) (hlc : H.lc ≤ 1000000) (hlf : H.lf ≤ 1000000) (hld : H.ld ≤ 1000000) (hlM : H.li < 1000000) :
    Calls Tryd.prog 15 #[.agg #[.int .i64 H.mem, .int .i64 H.stk, .int .i64 H.inp, .slice H.Ad H.ld H.cd, .slice H.Af H.lf H.cf, .slice H.Ac H.lc H.cc], .slice H.Ai H.li H.ci, .int .i64 t, .int .i64 steps] w fun e w' => e = .returned (.tuple #[.int .i64 (Mc.reachN H.p H.xs t steps), .bool (Mc.reachB H.p H.xs t steps)]) ∧ Below w.heap.size w w' := by
  have hrun : ∀ W, Below w.heap.size w W → Calls Tryd.prog 13 #[.agg #[.int .i64 H.mem, .int .i64 H.stk, .int .i64 H.inp, .slice H.Ad H.ld H.cd, .slice H.Af H.lf H.cf, .slice H.Ac H.lc H.cc], .slice H.Ai H.li H.ci, .int .i64 steps] W (RunA (Mc.answer H.p H.xs steps) W) := fun W hW => rrun_any H steps W (HA.below hW) hlc hlf hld hlM
  have hnil := @Mc.answer_nil H.p H.xs steps
  unfold Mc.reachN Mc.reachB
  generalize Mc.answer H.p H.xs steps = r at *
  obtain ⟨path, en, rg, mm, er⟩ := r
  simp only at hnil ⊢
  have hfr := Mc.first_ge path t
  have her : 0 ≤ Mc.first path t → er = 0 := fun h => by
    rcases Int.decEq er 0 with h1 | h1
    · rw [hnil h1] at h
      have h2 : Mc.first [] t = -1 := rfl
      omega
    · exact h1
  obtain ⟨f, hf⟩ : ∃ f, Mc.first path t = f := ⟨_, rfl⟩
  rw [hf] at her hfr ⊢
  obtain ⟨gg, hgg⟩ : ∃ g, max f 0 = g := ⟨_, rfl⟩
  obtain ⟨bq, hbq⟩ : ∃ b, decide (0 ≤ f) = b := ⟨_, rfl⟩
  rw [hgg, hbq]
  have HGG := Lib.hid (And.intro hgg hbq)
  clear hgg hbq
  have HF := Lib.hid hf
  have HRUN := Lib.hid hrun
  clear hrun HA hf hnil hlc hlf hld hlM
  obtain ⟨mem, stk, inp, Ad, ld, cd, Af, lf, cf, Ac, lc, cc, Ai, li, ci, P, xs⟩ := H
  have hB : Below w.heap.size w (w.alloc (.cells #[.int .i64 mem, .int .i64 stk, .int .i64 inp, .slice Ad ld cd, .slice Af lf cf, .slice Ac lc cc] 26)) := Below.box w _
  have HBX := Lib.hid hB
  go_enter Tryd.func15, Tryd.ntmps15
  go_wp2_with fail
  refine (HRUN.out _ hB).mono ?_
  rintro e v ⟨pA, pcap, mA, mcap, rfl, hin, hby, hbv⟩
  simp only [trC] at hin hbv ⊢
  have hbv2 := hB.trans (hbv.mono (by simp))
  have hidx : ∀ W, Below v.heap.size v W → Calls Tryd.prog 25 #[.slice pA path.length pcap, .int .i64 t] W fun e w' => e = .returned (.int .i64 f) ∧ Below W.heap.size W w' := fun W hW => by
    rw [← HF.out]; exact first_any pA path.length pcap path t W (hin.below hW)
  have HB := Lib.hid hbv2
  have HIX := Lib.hid hidx
  clear hin hby hbv hbv2 hidx hB
  generalize path.length = pn at *
  generalize rg.getD 0 0 = r0 at *
  generalize rg.getD 1 0 = r1 at *
  generalize rg.getD 2 0 = r2 at *
  generalize rg.getD 3 0 = r3 at *
  generalize rg.getD 4 0 = r4 at *
  generalize rg.getD 5 0 = r5 at *
  generalize rg.getD 6 0 = r6 at *
  generalize rg.getD 7 0 = r7 at *
  generalize mm.length = mn at *
  go_wp2_with fail
  refine (HIX.out _ (Below.box _ _)).mono ?_
  rintro e v3 ⟨rfl, hb3⟩
  have HB3 := Lib.hid (HB.out.trans (((Below.box v _).trans (hb3.mono (by simp))).mono HB.out.size))
  clear hb3
  by_cases h0 : 0 ≤ f
  · have hn : ¬ f < 0 := by omega
    obtain rfl := her h0
    have H0 := Lib.hid h0
    clear her hfr h0
    go_wp2
    go_ret2
    refine ⟨?_, HB3.out⟩
    have h0 := H0.out
    rw [← HGG.out.1, ← HGG.out.2, show max f 0 = f by omega, decide_eq_true h0]
    rfl
  · have hn : f < 0 := by omega
    have H0 := Lib.hid h0
    clear her hfr h0
    by_cases hz : er = 0
    · subst hz
      go_wp2
      go_ret2
      refine ⟨?_, HB3.out⟩
      have h0 : ¬ 0 ≤ f := by have := H0.out; omega
      rw [← HGG.out.1, ← HGG.out.2, show max f 0 = 0 by omega, decide_eq_false h0]
      rfl
    · have hzb : (er != 0) = true := by simpa using hz
      clear hz
      go_wp2
      go_ret2
      refine ⟨?_, HB3.out⟩
      have h0 : ¬ 0 ≤ f := by have := H0.out; omega
      rw [← HGG.out.1, ← HGG.out.2, show max f 0 = 0 by omega, decide_eq_false h0]
      rfl
end Go.Proofs.YtfhnigfghfmolaaDoor
namespace Go.Proofs.YtfhnigfghfmolaaDoor
set_option maxRecDepth 100000
open Go.RowKit

set_option maxRecDepth 20000 in
set_option maxHeartbeats 12800000 in
theorem runs_walk (mem stk inp : Int) (Ad : Option Addr) (ld cd : Nat) (Af : Option Addr) (lf cf : Nat) (Ac : Option Addr) (lc cc : Nat) (P : Im.Pic) (Ai : Option Addr) (li ci : Nat) (xs : List Int) (target steps : Int) (w : World) (ho : Ops w) (hi : ImAt w Ad ld cd Af lf cf Ac lc cc P) (e0 : P.mem = mem) (e1 : P.stk = stk) (e2 : P.inp = inp) (hx : BySl w Ai li ci xs) :
    Calls Tryd.prog 3 #[.agg #[.int .i64 mem, .int .i64 stk, .int .i64 inp, .slice Ad ld cd, .slice Af lf cf, .slice Ac lc cc], .slice Ai li ci, .int .i64 target, .int .i64 steps] w fun e w' => e = .returned (.bool true) ∧ Below w.heap.size w w' := by
  have hp := ho.pos
  have HA : HdAt w ⟨mem, stk, inp, Ad, ld, cd, Af, lf, cf, Ac, lc, cc, Ai, li, ci, P, xs⟩ := ⟨hi, e0, e1, e2, hx⟩
  have hld := Nat.le_trans hi.d.hle hi.d.hcap
  have hlf := Nat.le_trans hi.f.hle hi.f.hcap
  have hlc := Nat.le_trans hi.c.hle hi.c.hcap
  have hli := Nat.le_trans hx.hle hx.hcap
  have hgr := fun W => great_any mem stk inp Ad ld cd Af lf cf Ac lc cc Ai li ci steps W hld hlf hlc hli
  unfold maxLen at hli hlc
  have haw : ∀ W, Below w.heap.size w W → Calls Tryd.prog 10 #[] W fun e w' => e = .returned (.bool true) ∧ Below W.heap.size W w' := fun W hW => mc_awake W (ho.below hW hp)
  have hr1 : ∀ W, Below w.heap.size w W → Calls Tryd.prog 12 #[.agg #[.int .i64 mem, .int .i64 stk, .int .i64 inp, .slice Ad ld cd, .slice Af lf cf, .slice Ac lc cc], .slice Ai li ci, .int .i64 steps] W (RunA (Mc.answer P xs steps) W) := fun W hW => run_any ⟨mem, stk, inp, Ad, ld, cd, Af, lf, cf, Ac, lc, cc, Ai, li, ci, P, xs⟩ steps W (ho.below hW hp) (HA.below hW)
  have hr3 : ∀ W, Below w.heap.size w W → Calls Tryd.prog 14 #[.agg #[.int .i64 mem, .int .i64 stk, .int .i64 inp, .slice Ad ld cd, .slice Af lf cf, .slice Ac lc cc], .slice Ai li ci, .int .i64 target, .int .i64 steps] W fun e w' => e = .returned (.tuple #[.int .i64 (Mc.reachN P xs target steps), .bool (Mc.reachB P xs target steps)]) ∧ Below W.heap.size W w' := fun W hW => reach_any' ⟨mem, stk, inp, Ad, ld, cd, Af, lf, cf, Ac, lc, cc, Ai, li, ci, P, xs⟩ target steps W (ho.below hW hp) (HA.below hW)
  have hsz : greatB ld lf lc li steps = false → lc ≤ 1000000 ∧ lf ≤ 1000000 ∧ ld ≤ 1000000 ∧ li < 1000000 := fun hg => by
    unfold greatB fewB at hg
    simp at hg
    omega
  have hr2 : greatB ld lf lc li steps = false → ∀ W, Below w.heap.size w W → Calls Tryd.prog 13 #[.agg #[.int .i64 mem, .int .i64 stk, .int .i64 inp, .slice Ad ld cd, .slice Af lf cf, .slice Ac lc cc], .slice Ai li ci, .int .i64 steps] W (RunA (Mc.answer P xs steps) W) := fun hg W hW => rrun_any ⟨mem, stk, inp, Ad, ld, cd, Af, lf, cf, Ac, lc, cc, Ai, li, ci, P, xs⟩ steps W (HA.below hW) (hsz hg).1 (hsz hg).2.1 (hsz hg).2.2.1 (hsz hg).2.2.2
  have hr4 : greatB ld lf lc li steps = false → ∀ W, Below w.heap.size w W → Calls Tryd.prog 15 #[.agg #[.int .i64 mem, .int .i64 stk, .int .i64 inp, .slice Ad ld cd, .slice Af lf cf, .slice Ac lc cc], .slice Ai li ci, .int .i64 target, .int .i64 steps] W fun e w' => e = .returned (.tuple #[.int .i64 (Mc.reachN P xs target steps), .bool (Mc.reachB P xs target steps)]) ∧ Below W.heap.size W w' := fun hg W hW => rreach_any ⟨mem, stk, inp, Ad, ld, cd, Af, lf, cf, Ac, lc, cc, Ai, li, ci, P, xs⟩ target steps W (HA.below hW) (hsz hg).1 (hsz hg).2.1 (hsz hg).2.2.1 (hsz hg).2.2.2
  generalize Mc.reachN P xs target steps = rN at *
  generalize Mc.reachB P xs target steps = rB at *
  generalize Mc.answer P xs steps = r at *
  obtain ⟨path, en, rg, mm, er⟩ := r
  have hq := hgr
  generalize greatB ld lf lc li steps = q at *
  have HGR := Lib.hid hq
  have HAW := Lib.hid haw
  have HR1 := Lib.hid hr1
  have HR2 := Lib.hid hr2
  have HR3 := Lib.hid hr3
  have HR4 := Lib.hid hr4
  clear hq haw hr1 hr2 hr3 hr4 hgr hi hx HA e0 e1 e2 ho hlc hli hld hlf hsz
  go_enter Tryd.func3, Tryd.ntmps3
  go_wp2_with fail
  have hB0 := Below.box w (.cells #[.int .i64 mem, .int .i64 stk, .int .i64 inp, .slice Ad ld cd, .slice Af lf cf, .slice Ac lc cc] 26)
  have hX0 : (w.alloc (.cells #[.int .i64 mem, .int .i64 stk, .int .i64 inp, .slice Ad ld cd, .slice Af lf cf, .slice Ac lc cc] 26)).heap[w.heap.size]? = some (.cells #[.int .i64 mem, .int .i64 stk, .int .i64 inp, .slice Ad ld cd, .slice Af lf cf, .slice Ac lc cc] 26 (0, 0)) := heap_newM rfl
  have hz0 : w.heap.size < (w.alloc (.cells #[.int .i64 mem, .int .i64 stk, .int .i64 inp, .slice Ad ld cd, .slice Af lf cf, .slice Ac lc cc] 26)).heap.size := by simp
  generalize w.alloc (.cells #[.int .i64 mem, .int .i64 stk, .int .i64 inp, .slice Ad ld cd, .slice Af lf cf, .slice Ac lc cc] 26) = w0 at *
  refine (HAW.out _ hB0).mono ?_
  rintro e v ⟨rfl, hb⟩
  have HX1 := Lib.hid ((hb.block _ hz0).trans hX0)
  have HB1 := Lib.hid (hB0.trans (hb.mono hB0.size))
  have HZ1 := Lib.hid (Nat.lt_of_lt_of_le hz0 hb.size)
  clear hB0 hX0 hz0 hb
  have q0 := row_cell HX1.out 0
  have q1 := row_cell HX1.out 1
  have q2 := row_cell HX1.out 2
  have q3 := row_cell HX1.out 3
  have q4 := row_cell HX1.out 4
  have q5 := row_cell HX1.out 5
  simp at q0 q1 q2 q3 q4 q5
  go_wp2_with fail
  refine (HGR.out _).mono ?_
  rintro e v2 ⟨rfl, hb⟩
  have HX2 := Lib.hid ((hb.block _ HZ1.out).trans HX1.out)
  have HB2 := Lib.hid (HB1.out.trans (hb.mono HB1.out.size))
  have HZ2 := Lib.hid (Nat.lt_of_lt_of_le HZ1.out hb.size)
  clear hb
  clear q0 q1 q2 q3 q4 q5
  have q0 := row_cell HX2.out 0
  have q1 := row_cell HX2.out 1
  have q2 := row_cell HX2.out 2
  have q3 := row_cell HX2.out 3
  have q4 := row_cell HX2.out 4
  have q5 := row_cell HX2.out 5
  simp at q0 q1 q2 q3 q4 q5
  by_cases hq : q = true
  · subst hq
    go_wp2
    go_ret
    exact ⟨rfl, HB2.out⟩
  have hq : q = false := by simpa using hq
  subst hq
  have HR2' := Lib.hid (HR2.out rfl)
  have HR4' := Lib.hid (HR4.out rfl)
  clear HR2 HR4
  go_wp2_with fail
  refine (HR1.out _ HB2.out).mono ?_
  rintro e v3 ⟨pA, pcap, mA, mcap, rfl, hin, hby, hb⟩
  simp only [trC] at hin hby ⊢
  have HAI := Lib.hid (And.intro hin hby)
  have HX3 := Lib.hid ((hb.block _ HZ2.out).trans HX2.out)
  have HB3 := Lib.hid (HB2.out.trans (hb.mono HB2.out.size))
  have HZ3 := Lib.hid (Nat.lt_of_lt_of_le HZ2.out hb.size)
  clear hb q0 q1 q2 q3 q4 q5 hin hby
  obtain ⟨pn, hpn⟩ : ∃ k, path.length = k := ⟨_, rfl⟩
  obtain ⟨mn, hmn⟩ : ∃ k, mm.length = k := ⟨_, rfl⟩
  obtain ⟨r0, hr0⟩ : ∃ z, rg.getD 0 0 = z := ⟨_, rfl⟩
  obtain ⟨r1, hr1⟩ : ∃ z, rg.getD 1 0 = z := ⟨_, rfl⟩
  obtain ⟨r2, hr2⟩ : ∃ z, rg.getD 2 0 = z := ⟨_, rfl⟩
  obtain ⟨r3, hr3⟩ : ∃ z, rg.getD 3 0 = z := ⟨_, rfl⟩
  obtain ⟨r4, hr4⟩ : ∃ z, rg.getD 4 0 = z := ⟨_, rfl⟩
  obtain ⟨r5, hr5⟩ : ∃ z, rg.getD 5 0 = z := ⟨_, rfl⟩
  obtain ⟨r6, hr6⟩ : ∃ z, rg.getD 6 0 = z := ⟨_, rfl⟩
  obtain ⟨r7, hr7⟩ : ∃ z, rg.getD 7 0 = z := ⟨_, rfl⟩
  rw [hpn, hmn, hr0, hr1, hr2, hr3, hr4, hr5, hr6, hr7]
  have HE := Lib.hid (And.intro hpn hmn)
  have HRG := Lib.hid (And.intro hr0 (And.intro hr1 (And.intro hr2 (And.intro hr3 (And.intro hr4 (And.intro hr5 (And.intro hr6 (hr7))))))))
  clear hpn hmn hr0 hr1 hr2 hr3 hr4 hr5 hr6 hr7
  have q0 := row_cell HX3.out 0
  have q1 := row_cell HX3.out 1
  have q2 := row_cell HX3.out 2
  have q3 := row_cell HX3.out 3
  have q4 := row_cell HX3.out 4
  have q5 := row_cell HX3.out 5
  simp at q0 q1 q2 q3 q4 q5
  go_upto_region 6 with (fail)
  have hb4 := Below.box v3 (.cells #[.slice pA pn pcap, .int .i64 en, .int .u64 r0, .int .u64 r1, .int .u64 r2, .int .u64 r3, .int .u64 r4, .int .u64 r5, .int .u64 r6, .int .u64 r7, .slice mA mn mcap] 32)
  have h49 : (v3.alloc (.cells #[.slice pA pn pcap, .int .i64 en, .int .u64 r0, .int .u64 r1, .int .u64 r2, .int .u64 r3, .int .u64 r4, .int .u64 r5, .int .u64 r6, .int .u64 r7, .slice mA mn mcap] 32)).heap[v3.heap.size]? = some (.cells #[.slice pA pn pcap, .int .i64 en, .int .u64 r0, .int .u64 r1, .int .u64 r2, .int .u64 r3, .int .u64 r4, .int .u64 r5, .int .u64 r6, .int .u64 r7, .slice mA mn mcap] 32 (0, 0)) := heap_newM rfl
  obtain ⟨g9, hg9⟩ : ∃ g, v3.heap.size = g := ⟨_, rfl⟩
  have hg9l : w.heap.size < g9 := by have := HZ3.out; omega
  have HX4 := Lib.hid ((hb4.block _ HZ3.out).trans HX3.out)
  have HB4 := Lib.hid (HB3.out.trans (hb4.mono HB3.out.size))
  have HAI4 := Lib.hid (And.intro (HAI.out.1.below hb4) (HAI.out.2.below hb4))
  rw [hg9] at h49 ⊢
  generalize v3.alloc (.cells #[.slice pA pn pcap, .int .i64 en, .int .u64 r0, .int .u64 r1, .int .u64 r2, .int .u64 r3, .int .u64 r4, .int .u64 r5, .int .u64 r6, .int .u64 r7, .slice mA mn mcap] 32) = v4 at *
  have HT4 := Lib.hid h49
  have HZ4 := Lib.hid (And.intro hg9l (Array.getElem?_eq_some_iff.1 h49).1)
  clear hb4 h49 hg9 hg9l q0 q1 q2 q3 q4 q5
  have q0 := row_cell HX4.out 0
  have q1 := row_cell HX4.out 1
  have q2 := row_cell HX4.out 2
  have q3 := row_cell HX4.out 3
  have q4 := row_cell HX4.out 4
  have q5 := row_cell HX4.out 5
  simp at q0 q1 q2 q3 q4 q5
  go_wp2_with fail
  refine (HR2'.out _ HB4.out).mono ?_
  rintro e v5 ⟨pB, pcbp, mB, mcbp, rfl, hin, hby, hb⟩
  simp only [trC] at hin hby ⊢
  rw [HE.out.1] at hin
  rw [HE.out.2] at hby
  rw [HE.out.1, HE.out.2]
  obtain ⟨hr0, hr1, hr2, hr3, hr4, hr5, hr6, hr7⟩ := HRG.out
  rw [hr0, hr1, hr2, hr3, hr4, hr5, hr6, hr7]
  clear hr0 hr1 hr2 hr3 hr4 hr5 hr6 hr7
  have HBI := Lib.hid (And.intro hin hby)
  have HX5 := Lib.hid ((hb.block _ (by have := HZ4.out; omega)).trans HX4.out)
  have HT5 := Lib.hid ((hb.block _ HZ4.out.2).trans HT4.out)
  have HB5 := Lib.hid (HB4.out.trans (hb.mono HB4.out.size))
  have HZ5 := Lib.hid (And.intro HZ4.out.1 (Nat.lt_of_lt_of_le HZ4.out.2 hb.size))
  have HAI5 := Lib.hid (And.intro (HAI4.out.1.below hb) (HAI4.out.2.below hb))
  clear hb hin hby q0 q1 q2 q3 q4 q5
  have q0 := row_cell HX5.out 0
  have q1 := row_cell HX5.out 1
  have q2 := row_cell HX5.out 2
  have q3 := row_cell HX5.out 3
  have q4 := row_cell HX5.out 4
  have q5 := row_cell HX5.out 5
  simp at q0 q1 q2 q3 q4 q5
  go_upto_region 7 with (fail)
  have hb6 := Below.box v5 (.cells #[.slice pB pn pcbp, .int .i64 en, .int .u64 r0, .int .u64 r1, .int .u64 r2, .int .u64 r3, .int .u64 r4, .int .u64 r5, .int .u64 r6, .int .u64 r7, .slice mB mn mcbp] 32)
  have h611 : (v5.alloc (.cells #[.slice pB pn pcbp, .int .i64 en, .int .u64 r0, .int .u64 r1, .int .u64 r2, .int .u64 r3, .int .u64 r4, .int .u64 r5, .int .u64 r6, .int .u64 r7, .slice mB mn mcbp] 32)).heap[v5.heap.size]? = some (.cells #[.slice pB pn pcbp, .int .i64 en, .int .u64 r0, .int .u64 r1, .int .u64 r2, .int .u64 r3, .int .u64 r4, .int .u64 r5, .int .u64 r6, .int .u64 r7, .slice mB mn mcbp] 32 (0, 0)) := heap_newM rfl
  obtain ⟨g11, hg11⟩ : ∃ g, v5.heap.size = g := ⟨_, rfl⟩
  have HX6 := Lib.hid ((hb6.block _ (by have := HZ5.out; omega)).trans HX5.out)
  have HT6 := Lib.hid ((hb6.block _ HZ5.out.2).trans HT5.out)
  have HB6 := Lib.hid (HB5.out.trans (hb6.mono HB5.out.size))
  have HAI6 := Lib.hid (And.intro (HAI5.out.1.below hb6) (HAI5.out.2.below hb6))
  have HBI6 := Lib.hid (And.intro (HBI.out.1.below hb6) (HBI.out.2.below hb6))
  have hgl : g9 < g11 := by have := HZ5.out; omega
  rw [hg11] at h611 ⊢
  generalize v5.alloc (.cells #[.slice pB pn pcbp, .int .i64 en, .int .u64 r0, .int .u64 r1, .int .u64 r2, .int .u64 r3, .int .u64 r4, .int .u64 r5, .int .u64 r6, .int .u64 r7, .slice mB mn mcbp] 32) = v6 at *
  have HU6 := Lib.hid h611
  have HZ6 := Lib.hid (show w.heap.size < v6.heap.size ∧ g9 < v6.heap.size ∧ g11 < v6.heap.size by have h1 := (Array.getElem?_eq_some_iff.1 h611).1; have h2 := HZ5.out; omega)
  clear hb6 h611 hg11 hgl q0 q1 q2 q3 q4 q5
  have q0 := row_cell HX6.out 0
  have q1 := row_cell HX6.out 1
  have q2 := row_cell HX6.out 2
  have q3 := row_cell HX6.out 3
  have q4 := row_cell HX6.out 4
  have q5 := row_cell HX6.out 5
  simp at q0 q1 q2 q3 q4 q5
  go_wp2_with fail
  refine (HR3.out _ HB6.out).mono ?_
  rintro e v7 ⟨rfl, hb⟩
  have HX7 := Lib.hid ((hb.block _ HZ6.out.1).trans HX6.out)
  have HT7 := Lib.hid ((hb.block _ HZ6.out.2.1).trans HT6.out)
  have HU7 := Lib.hid ((hb.block _ HZ6.out.2.2).trans HU6.out)
  have HB7 := Lib.hid (HB6.out.trans (hb.mono HB6.out.size))
  have HAI7 := Lib.hid (And.intro (HAI6.out.1.below hb) (HAI6.out.2.below hb))
  have HBI7 := Lib.hid (And.intro (HBI6.out.1.below hb) (HBI6.out.2.below hb))
  have HZ7 := Lib.hid (show g9 < v7.heap.size ∧ g11 < v7.heap.size by have h1 := hb.size; have h2 := HZ6.out; omega)
  clear hb q0 q1 q2 q3 q4 q5
  have q0 := row_cell HX7.out 0
  have q1 := row_cell HX7.out 1
  have q2 := row_cell HX7.out 2
  have q3 := row_cell HX7.out 3
  have q4 := row_cell HX7.out 4
  have q5 := row_cell HX7.out 5
  simp at q0 q1 q2 q3 q4 q5
  go_wp2_with fail
  refine (HR4'.out _ HB7.out).mono ?_
  rintro e v8 ⟨rfl, hb⟩
  have HT8 := Lib.hid ((hb.block _ HZ7.out.1).trans HT7.out)
  have HU8 := Lib.hid ((hb.block _ HZ7.out.2).trans HU7.out)
  have HB8 := Lib.hid (HB7.out.trans (hb.mono HB7.out.size))
  have HAI8 := Lib.hid (And.intro (HAI7.out.1.below hb) (HAI7.out.2.below hb))
  have HBI8 := Lib.hid (And.intro (HBI7.out.1.below hb) (HBI7.out.2.below hb))
  clear hb q0 q1 q2 q3 q4 q5
  have t0 := row_cell HT8.out 0
  have t1 := row_cell HT8.out 1
  have t2 := row_cell HT8.out 2
  have t3 := row_cell HT8.out 3
  have t4 := row_cell HT8.out 4
  have t5 := row_cell HT8.out 5
  have t6 := row_cell HT8.out 6
  have t7 := row_cell HT8.out 7
  have t8 := row_cell HT8.out 8
  have t9 := row_cell HT8.out 9
  have t10 := row_cell HT8.out 10
  simp at t0 t1 t2 t3 t4 t5 t6 t7 t8 t9 t10
  have u0 := row_cell HU8.out 0
  have u1 := row_cell HU8.out 1
  have u2 := row_cell HU8.out 2
  have u3 := row_cell HU8.out 3
  have u4 := row_cell HU8.out 4
  have u5 := row_cell HU8.out 5
  have u6 := row_cell HU8.out 6
  have u7 := row_cell HU8.out 7
  have u8 := row_cell HU8.out 8
  have u9 := row_cell HU8.out 9
  have u10 := row_cell HU8.out 10
  simp at u0 u1 u2 u3 u4 u5 u6 u7 u8 u9 u10
  have hsame : Calls Tryd.prog 16 #[.agg #[.slice pA pn pcap, .int .i64 en, .int .u64 r0, .int .u64 r1, .int .u64 r2, .int .u64 r3, .int .u64 r4, .int .u64 r5, .int .u64 r6, .int .u64 r7, .slice mA mn mcap], .agg #[.slice pB pn pcbp, .int .i64 en, .int .u64 r0, .int .u64 r1, .int .u64 r2, .int .u64 r3, .int .u64 r4, .int .u64 r5, .int .u64 r6, .int .u64 r7, .slice mB mn mcbp]] v8 fun e w' => e = .returned (.bool true) ∧ Below v8.heap.size v8 w' := by
    have h1 := HAI8.out
    have h2 := HBI8.out
    obtain ⟨hr0, hr1, hr2, hr3, hr4, hr5, hr6, hr7⟩ := HRG.out
    have h11 := h1.1
    have h12 := h1.2
    rw [HE.out.1] at h11
    rw [HE.out.2] at h12
    have := sameTrace_any pA pn pcap en mA mn mcap (path, en, rg, mm) pB pn pcbp en mB mn mcbp (path, en, rg, mm) v8 h11 h2.1 h12 h2.2 rfl rfl
    rw [trB_self] at this
    simp only [trC] at this
    rw [hr0, hr1, hr2, hr3, hr4, hr5, hr6, hr7] at this
    exact this
  have HSAME := Lib.hid hsame
  clear hsame
  go_wp2_with fail
  refine HSAME.out.mono ?_
  rintro e v9 ⟨rfl, hb⟩
  have HB9 := Lib.hid (HB8.out.trans (hb.mono HB8.out.size))
  clear hb t0 t1 t2 t3 t4 t5 t6 t7 t8 t9 t10 u0 u1 u2 u3 u4 u5 u6 u7 u8 u9 u10
  go_wp2
  go_ret
  exact ⟨rfl, HB9.out⟩
end Go.Proofs.YtfhnigfghfmolaaDoor
