/-
  Layer 7 in memory: bytes, trees of what was put; contracts of byteOf, At, find.
  Layer 7: contract of find.
  Layer 7: contract of grown.
  Layer 7 in memory: values; contracts of byteAt, with.
-/
import Derived.Test.YtdbcpnpcnkccaaaMA
import Derived.Test.YtdbcpnpcnkccaaaME
import Derived.Deep.LoopGhost
import Derived.WalkSmall
import Derived.Handy
set_option linter.unusedSimpArgs false
set_option linter.unusedVariables false
namespace Go.Proofs.Ytdbcpnpcnkccaaa
set_option maxRecDepth 100000
open Go.RowKit

/-- Bytes in memory. -/
structure BtR (w : World) (A : Option Addr) (len cap : Nat) (l : List Int) : Prop where
  hlen : l.length = len
  hle : len ≤ cap
  hcap : cap ≤ maxLen
  mem : 0 < len → ∃ b o, A = some ⟨b, o, none⟩ ∧ b < w.heap.size ∧ ∀ i, i < len → w.cell? ⟨b, o + i, none⟩ = some (.int .u8 (l.getD i 0))
theorem BtR.below {w w' : World} {A : Option Addr} {len cap : Nat} {l : List Int} (h : BtR w A len cap l) (hb : Below w.heap.size w w') : BtR w' A len cap l :=
  ⟨h.hlen, h.hle, h.hcap, fun h0 => by
    obtain ⟨b, o, e, hlt, hx⟩ := h.mem h0
    exact ⟨b, o, e, Nat.lt_of_lt_of_le hlt hb.size, fun i hi => (hb.cell (p := ⟨b, o + i, none⟩) hlt).trans (hx i hi)⟩⟩
theorem Vl.att_out {l : List Int} {k : Nat} (h : l.length ≤ k) : Vl.att l k = 0 := by
  rw [Vl.att, Int.toNat_natCast, List.getD_eq_getElem?_getD, List.getElem?_eq_none h]; rfl

set_option maxHeartbeats 1000000 in
theorem byteOf_any (A : Option Addr) (len cap : Nat) (l : List Int) (k : Nat) (w : World) (h : BtR w A len cap l) :
    Calls Try.prog 128 #[.slice A len cap, .int .u64 k] w fun e w' => e = .returned (.int .u8 (Vl.att l k)) ∧ w = w' := by
  have hcl := h.hle
  have hcm := h.hcap
  unfold maxLen at hcm
  by_cases hk : k < len
  · obtain ⟨b, o, rfl, hb, hx⟩ := h.mem (by omega)
    have hc := hx k hk
    have hv : l.getD k 0 = Vl.att l k := by rw [Vl.att, Int.toNat_natCast]
    rw [hv] at hc
    generalize Vl.att l k = u at *
    have hk' : (k : Int) < len := by omega
    clear h hx hv
    go_enter Try.func128, Try.ntmps128
    go_wp2
    go_ret
    exact ⟨rfl, rfl⟩
  · rw [Vl.att_out (by have := h.hlen; omega)]
    clear h
    have hk' : ¬ (k : Int) < len := by omega
    go_enter Try.func128, Try.ntmps128
    go_wp2
    go_ret
    exact ⟨rfl, rfl⟩
set_option maxHeartbeats 1000000 in
theorem at_any (A : Option Addr) (len cap : Nat) (l : List Int) (k : Nat) (w : World) (h : BtR w A len cap l) :
    Calls Try.prog 34 #[.slice A len cap, .int .u64 k] w fun e w' => e = .returned (.int .u8 (Vl.att l k)) ∧ w = w' := by
  have hcl := h.hle
  have hcm := h.hcap
  unfold maxLen at hcm
  by_cases hk : k < len
  · obtain ⟨b, o, rfl, hb, hx⟩ := h.mem (by omega)
    have hc := hx k hk
    have hv : l.getD k 0 = Vl.att l k := by rw [Vl.att, Int.toNat_natCast]
    rw [hv] at hc
    generalize Vl.att l k = u at *
    have hk' : (k : Int) < len := by omega
    clear h hx hv
    go_enter Try.func34, Try.ntmps34
    go_wp2
    go_ret
    exact ⟨rfl, rfl⟩
  · rw [Vl.att_out (by have := h.hlen; omega)]
    clear h
    have hk' : ¬ (k : Int) < len := by omega
    go_enter Try.func34, Try.ntmps34
    go_wp2
    go_ret
    exact ⟨rfl, rfl⟩

/-- A tree in memory. -/
def TrAt (w : World) : Value → Vl.Tr → Prop
  | v, .nil => v = .pointer none
  | v, .node a b l r => ∃ (blk : Nat) (pl pr : Value), v = .pointer (some ⟨blk, 0, none⟩) ∧ Blk w blk 134 #[.int .u64 a, .int .u8 b, pl, pr] ∧ (0 ≤ a ∧ a < 18446744073709551616) ∧ TrAt w pl l ∧ TrAt w pr r
theorem TrAt.below {w w' : World} (hb : Below w.heap.size w w') : ∀ {t : Vl.Tr} {v : Value}, TrAt w v t → TrAt w' v t
  | .nil, _, h => h
  | .node _ _ _ _, _, ⟨blk, pl, pr, e, hk, ha, hl, hr⟩ => ⟨blk, pl, pr, e, (hb.block blk hk.lt).trans hk, ha, TrAt.below hb hl, TrAt.below hb hr⟩
theorem TrAt.ptr {w : World} : ∀ {t : Vl.Tr} {v : Value}, TrAt w v t → ∃ p, v = .pointer p
  | .nil, _, h => ⟨none, h⟩
  | .node _ _ _ _, _, ⟨blk, _, _, e, _⟩ => ⟨some ⟨blk, 0, none⟩, e⟩
def Vl.Tr.dep : Vl.Tr → Nat
  | .nil => 0
  | .node _ _ l r => Nat.max l.dep r.dep + 1

end Go.Proofs.Ytdbcpnpcnkccaaa
namespace Go.Proofs.Ytdbcpnpcnkccaaa
set_option maxRecDepth 100000
open Go.RowKit

/-- What find answers. -/
def FiP (o : Option Int) (w : World) (e : Ending) (w' : World) : Prop :=
  w = w' ∧ match o with
    | none => e = .returned (.pointer none)
    | some b => ∃ blk, e = .returned (.pointer (some ⟨blk, 0, none⟩)) ∧ w.cell? ⟨blk, 1, none⟩ = some (.int .u8 b)

set_option maxHeartbeats 2000000 in
theorem vfind_any (t : Vl.Tr) (v : Value) (k : Nat) (w : World) (h : TrAt w v t) (hk64 : k < 18446744073709551616) :
    Calls Try.prog 79 #[v, .int .u64 k] w (FiP (t.find k k) w) := by
  obtain ⟨p0, rfl⟩ := h.ptr
  have HO := Lib.hid h
  clear h
  generalize hO : Vl.Tr.find t k k = O
  have HE := Lib.hid hO
  clear hO
  go_enter Try.func79, Try.ntmps79
  go_wp2_with fail
  go_loopg [0, 5] t.dep (fun g p b wr => w = wr ∧ ∃ (t' : Vl.Tr) (n : Int) (q : Option Addr), p = .pointer q ∧ TrAt w (.pointer q) t' ∧ b = .int .u64 n ∧ t'.find n k = O ∧ t'.dep ≤ g ∧ 0 ≤ n ∧ n < 18446744073709551616)
  case atStart => exact ⟨rfl, t, k, p0, rfl, HO.out, rfl, HE.out, Nat.le_refl _, by omega, by omega⟩
  case round =>
    obtain ⟨rfl, t', n, q, rfl, hq, rfl, hf, hd, hn0, hn⟩ := hrel
    cases t' with
    | nil =>
      have hq : Value.pointer q = .pointer none := hq
      injection hq with hq
      subst hq
      have hf : none = O := hf
      subst hf
      go_wp2
      go_ret
      exact ⟨rfl, rfl⟩
    | node a b l r =>
      obtain ⟨blk, pl, pr, e, hb, ha, hl, hr⟩ := hq
      injection e with e
      subst e
      have c0 : w.cell? ⟨blk, 0, none⟩ = some (.int .u64 a) := hb.c 0
      have c1 : w.cell? ⟨blk, 1, none⟩ = some (.int .u8 b) := hb.c 1
      have c2 : w.cell? ⟨blk, 2, none⟩ = some pl := hb.c 2
      have c3 : w.cell? ⟨blk, 3, none⟩ = some pr := hb.c 3
      obtain ⟨ql, rfl⟩ := hl.ptr
      obtain ⟨qr, rfl⟩ := hr.ptr
      have HL := Lib.hid hl
      have HR := Lib.hid hr
      have HF := Lib.hid hf
      have HD := Lib.hid hd
      clear hl hr hf hd hb
      by_cases hk : a = (k : Int)
      · have hkb : (a != (k : Int)) = false := by simp [hk]
        have hf := HF.out
        rw [Vl.Tr.find, if_pos hk] at hf
        subst hf
        go_wp2
        go_ret
        exact ⟨rfl, blk, rfl, c1⟩
      · have hkb : (a != (k : Int)) = true := by simp [hk]
        have hf := HF.out
        rw [Vl.Tr.find, if_neg hk] at hf
        have HG := Lib.hid hf
        clear hf
        have hd1 : Vl.Tr.dep l < gk := by have := HD.out; have h := Nat.le_max_left l.dep r.dep; simp only [Vl.Tr.dep] at this; exact Nat.lt_of_lt_of_le (Nat.lt_succ_of_le h) this
        have hd2 : Vl.Tr.dep r < gk := by have := HD.out; have h := Nat.le_max_right l.dep r.dep; simp only [Vl.Tr.dep] at this; exact Nat.lt_of_lt_of_le (Nat.lt_succ_of_le h) this
        have HD1 := Lib.hid hd1
        have HD2 := Lib.hid hd2
        clear hd1 hd2
        have h2' : n % 2 = 0 ∨ n % 2 = 1 := by omega
        rcases h2' with h2 | h2
        · have hbit : bits .and .u64 n 1 = 0 := by rw [and_one_u64 _ (by omega) (by omega)]; omega
          have HG2 := HG.out
          rw [if_pos h2] at HG2
          have HG3 := Lib.hid HG2
          clear HG2 HG h2
          go_wp2
          go_roundg (Vl.Tr.dep l)
          case measure => exact HD1.out
          case rel => exact ⟨rfl, l, n / 2, ql, rfl, HL.out, rfl, HG3.out, Nat.le_refl _, by omega, by omega⟩
        · have hbit : bits .and .u64 n 1 = 1 := by rw [and_one_u64 _ (by omega) (by omega)]; omega
          have HG2 := HG.out
          rw [if_neg (by omega)] at HG2
          have HG3 := Lib.hid HG2
          clear HG2 HG h2
          go_wp2
          go_roundg (Vl.Tr.dep r)
          case measure => exact HD2.out
          case rel => exact ⟨rfl, r, n / 2, qr, rfl, HR.out, rfl, HG3.out, Nat.le_refl _, by omega, by omega⟩
end Go.Proofs.Ytdbcpnpcnkccaaa
namespace Go.Proofs.Ytdbcpnpcnkccaaa
set_option maxRecDepth 100000
open Go.RowKit

/-- A tree in memory, none of whose blocks is in F. -/
def TrIn (w : World) (F : Nat → Prop) : Value → Vl.Tr → Prop
  | v, .nil => v = .pointer none
  | v, .node a b l r => ∃ (blk : Nat) (pl pr : Value), v = .pointer (some ⟨blk, 0, none⟩) ∧ ¬ F blk ∧ Blk w blk 134 #[.int .u64 a, .int .u8 b, pl, pr] ∧ (0 ≤ a ∧ a < 18446744073709551616) ∧ TrIn w F pl l ∧ TrIn w F pr r
theorem TrIn.out {w : World} {F : Nat → Prop} : ∀ {t : Vl.Tr} {v : Value}, TrIn w F v t → TrAt w v t
  | .nil, _, h => h
  | .node _ _ _ _, _, ⟨blk, pl, pr, e, _, hk, ha, hl, hr⟩ => ⟨blk, pl, pr, e, hk, ha, TrIn.out hl, TrIn.out hr⟩
theorem TrAt.free {w : World} {F : Nat → Prop} (hF : ∀ b, F b → w.heap.size ≤ b) : ∀ {t : Vl.Tr} {v : Value}, TrAt w v t → TrIn w F v t
  | .nil, _, h => h
  | .node _ _ _ _, _, ⟨blk, pl, pr, e, hk, ha, hl, hr⟩ => ⟨blk, pl, pr, e, fun h => by have := hF _ h; have := hk.lt; omega, hk, ha, TrAt.free hF hl, TrAt.free hF hr⟩
theorem TrIn.below {w w' : World} {F : Nat → Prop} (hb : Below w.heap.size w w') : ∀ {t : Vl.Tr} {v : Value}, TrIn w F v t → TrIn w' F v t
  | .nil, _, h => h
  | .node _ _ _ _, _, ⟨blk, pl, pr, e, hf, hk, ha, hl, hr⟩ => ⟨blk, pl, pr, e, hf, (hb.block blk hk.lt).trans hk, ha, TrIn.below hb hl, TrIn.below hb hr⟩
theorem TrIn.more {w : World} {F G : Nat → Prop} (hF : ∀ b, G b → F b ∨ w.heap.size ≤ b) : ∀ {t : Vl.Tr} {v : Value}, TrIn w F v t → TrIn w G v t
  | .nil, _, h => h
  | .node _ _ _ _, _, ⟨blk, pl, pr, e, hf, hk, ha, hl, hr⟩ => ⟨blk, pl, pr, e, fun h => by
      rcases hF _ h with h1 | h1
      · exact hf h1
      · have := hk.lt; omega, hk, ha, TrIn.more hF hl, TrIn.more hF hr⟩
theorem TrIn.set {w : World} {F : Nat → Prop} {g i : Nat} (hg : F g) (x : Value) : ∀ {t : Vl.Tr} {v : Value}, TrIn w F v t → TrIn (w.setCell ⟨g, i, none⟩ x) F v t
  | .nil, _, h => h
  | .node _ _ _ _, _, ⟨blk, pl, pr, e, hf, hk, ha, hl, hr⟩ => ⟨blk, pl, pr, e, hf, (Below.heap_setCell _ _ _ _ (fun e => hf (by subst e; exact hg))).trans hk, ha, TrIn.set hg x hl, TrIn.set hg x hr⟩
theorem TrIn.ptr {w : World} {F : Nat → Prop} {t : Vl.Tr} {v : Value} (h : TrIn w F v t) : ∃ p, v = .pointer p := h.out.ptr

def GrP (F : Nat → Prop) (t : Vl.Tr) (w : World) (e : Ending) (w' : World) : Prop := ∃ p, e = .returned (.pointer p) ∧ TrIn w' F (.pointer p) t ∧ Below w.heap.size w w'

set_option maxHeartbeats 4000000 in
theorem grown_in (k b : Int) (hk : 0 ≤ k ∧ k < 18446744073709551616) : ∀ (t : Vl.Tr) (F : Nat → Prop) (p0 : Option Addr) (n : Int) (w : World), TrIn w F (.pointer p0) t → (∀ b, F b → b < w.heap.size) → 0 ≤ n → n < 18446744073709551616 →
    Calls Try.prog 136 #[.pointer p0, .int .u64 n, .int .u64 k, .int .u8 b] w (GrP F (t.grown n k b) w) := by
  intro t
  induction t with
  | nil =>
    intro F p0 n w h hF hn0 hn
    have h : Value.pointer p0 = .pointer none := h
    injection h with h
    subst h
    have HF := Lib.hid hF
    clear hF
    go_enter Try.func136, Try.ntmps136
    go_wp2_with fail
    go_ret
    refine ⟨_, rfl, ⟨w.heap.size, .pointer none, .pointer none, rfl, fun h => ?_, Blk.new _ _ _, hk, rfl, rfl⟩, Below.box _ _⟩
    have := HF.out _ h
    omega
  | node a c l r ihl ihr =>
    intro F p0 n w h hF hn0 hn
    obtain ⟨blk, pl, pr, e, hf, hb, ha, hl, hr⟩ := h
    injection e with e
    subst e
    obtain ⟨ql, rfl⟩ := hl.ptr
    obtain ⟨qr, rfl⟩ := hr.ptr
    have c0 : w.cell? ⟨blk, 0, none⟩ = some (.int .u64 a) := hb.c 0
    have c1 : w.cell? ⟨blk, 1, none⟩ = some (.int .u8 c) := hb.c 1
    have c2 : w.cell? ⟨blk, 2, none⟩ = some (.pointer ql) := hb.c 2
    have c3 : w.cell? ⟨blk, 3, none⟩ = some (.pointer qr) := hb.c 3
    have HF := Lib.hid hF
    have HL := Lib.hid hl
    have HR := Lib.hid hr
    have hfw : ¬ F w.heap.size := fun h => by have := hF _ h; omega
    clear hF hl hr hb hf
    by_cases hak : a = k
    · have e : Vl.Tr.grown (.node a c l r) n k b = .node a b l r := if_pos hak
      rw [e]
      subst hak
      clear e ihl ihr
      go_enter Try.func136, Try.ntmps136
      go_wp2_with fail
      go_ret
      refine ⟨_, rfl, ⟨w.heap.size, .pointer ql, .pointer qr, rfl, hfw, Blk.new _ _ _, ha, HL.out.below (Below.box _ _), HR.out.below (Below.box _ _)⟩, Below.box _ _⟩
    · have hkb : (a == k) = false := by simp [hak]
      let G : Nat → Prop := fun b => F b ∨ b = w.heap.size
      have hG : ∀ o : Obj, ∀ b, G b → b < (w.alloc o).heap.size := fun o b h => by
        have hs : (w.alloc o).heap.size = w.heap.size + 1 := by simp
        rcases h with h | h
        · have := HF.out b h; omega
        · omega
      have hm : ∀ b, G b → F b ∨ w.heap.size ≤ b := fun b h => h.elim .inl fun h => .inr (by omega)
      have h2' : n % 2 = 0 ∨ n % 2 = 1 := by omega
      rcases h2' with h2 | h2
      · have hbit : bits .and .u64 n 1 = 0 := by rw [and_one_u64 _ (by omega) (by omega)]; omega
        have e : Vl.Tr.grown (.node a c l r) n k b = .node a c (l.grown (n / 2) k b) r := by rw [Vl.Tr.grown, if_neg hak, if_pos h2]
        rw [e]
        have I := Lib.hid (ihl G ql (n / 2) (w.alloc (.cells #[.int .u64 a, .int .u8 c, .pointer ql, .pointer qr] 134)) ((HL.out.more hm).below (Below.box _ _)) (hG _) (by omega) (by omega))
        have HM := Lib.hid hm
        clear e ihl ihr h2 hm hG
        go_enter Try.func136, Try.ntmps136
        go_wp2_with (go_at_call 136; refine I.out.mono ?_; rintro e w' ⟨p, rfl, ht, hbw⟩; have hq : Blk w' w.heap.size 134 #[.int .u64 a, .int .u8 c, .pointer ql, .pointer qr] := (hbw.block w.heap.size (by simp)).trans (Blk.new w _ 134); have q2 : w'.cell? ⟨w.heap.size, 2, none⟩ = some (.pointer ql) := hq.c 2; have f2 : w'.frozen? ⟨w.heap.size, 2, none⟩ = false := hq.fr 2)
        go_ret
        have hB : Below w.heap.size w w' := (Below.box w _).trans (hbw.mono (by simp))
        have hq : Blk w' w.heap.size 134 #[.int .u64 a, .int .u8 c, .pointer ql, .pointer qr] := (hbw.block w.heap.size (by simp)).trans (Blk.new w _ 134)
        have hgw : G w.heap.size := .inr rfl
        exact ⟨_, rfl, ⟨w.heap.size, .pointer p, .pointer qr, rfl, hfw, hq.set (i := 2) (.pointer p), ha, (ht.set hgw _).more fun b h => .inl (.inl h), (((HR.out.more HM.out).below hB).set hgw _).more fun b h => .inl (.inl h)⟩, hB.setCell (Nat.le_refl _) _⟩
      · have hbit : bits .and .u64 n 1 = 1 := by rw [and_one_u64 _ (by omega) (by omega)]; omega
        have e : Vl.Tr.grown (.node a c l r) n k b = .node a c l (r.grown (n / 2) k b) := by rw [Vl.Tr.grown, if_neg hak, if_neg (by omega)]
        rw [e]
        have I := Lib.hid (ihr G qr (n / 2) (w.alloc (.cells #[.int .u64 a, .int .u8 c, .pointer ql, .pointer qr] 134)) ((HR.out.more hm).below (Below.box _ _)) (hG _) (by omega) (by omega))
        have HM := Lib.hid hm
        clear e ihl ihr h2 hm hG
        go_enter Try.func136, Try.ntmps136
        go_wp2_with (go_at_call 136; refine I.out.mono ?_; rintro e w' ⟨p, rfl, ht, hbw⟩; have hq : Blk w' w.heap.size 134 #[.int .u64 a, .int .u8 c, .pointer ql, .pointer qr] := (hbw.block w.heap.size (by simp)).trans (Blk.new w _ 134); have q2 : w'.cell? ⟨w.heap.size, 3, none⟩ = some (.pointer qr) := hq.c 3; have f2 : w'.frozen? ⟨w.heap.size, 3, none⟩ = false := hq.fr 3)
        go_ret
        have hB : Below w.heap.size w w' := (Below.box w _).trans (hbw.mono (by simp))
        have hq : Blk w' w.heap.size 134 #[.int .u64 a, .int .u8 c, .pointer ql, .pointer qr] := (hbw.block w.heap.size (by simp)).trans (Blk.new w _ 134)
        have hgw : G w.heap.size := .inr rfl
        exact ⟨_, rfl, ⟨w.heap.size, .pointer ql, .pointer p, rfl, hfw, hq.set (i := 3) (.pointer p), ha, (((HL.out.more HM.out).below hB).set hgw _).more fun b h => .inl (.inl h), (ht.set hgw _).more fun b h => .inl (.inl h)⟩, hB.setCell (Nat.le_refl _) _⟩
end Go.Proofs.Ytdbcpnpcnkccaaa
namespace Go.Proofs.Ytdbcpnpcnkccaaa
set_option maxRecDepth 100000
open Go.RowKit

/-- But for blocks in F, what was there stays. -/
structure Keep (F : Nat → Prop) (w w' : World) : Prop where
  size : w.heap.size ≤ w'.heap.size
  block : ∀ b, b < w.heap.size → ¬ F b → w'.heap[b]? = w.heap[b]?
theorem Keep.of_below {F : Nat → Prop} {w w' : World} (h : Below w.heap.size w w') : Keep F w w' := ⟨h.size, fun b hb _ => h.block b hb⟩
theorem TrIn.keep {w w' : World} {F : Nat → Prop} (hb : Keep F w w') : ∀ {t : Vl.Tr} {v : Value}, TrIn w F v t → TrIn w' F v t
  | .nil, _, h => h
  | .node _ _ _ _, _, ⟨blk, pl, pr, e, hf, hk, ha, hl, hr⟩ => ⟨blk, pl, pr, e, hf, (hb.block blk hk.lt hf).trans hk, ha, TrIn.keep hb hl, TrIn.keep hb hr⟩
/-- Bytes in memory, not in F. -/
structure BtIn (w : World) (F : Nat → Prop) (A : Option Addr) (len cap : Nat) (l : List Int) : Prop where
  r : BtR w A len cap l
  free : ∀ a, A = some a → 0 < len → ¬ F a.block
theorem BtIn.keep {w w' : World} {F : Nat → Prop} {A : Option Addr} {len cap : Nat} {l : List Int} (h : BtIn w F A len cap l) (hk : Keep F w w') : BtIn w' F A len cap l :=
  ⟨⟨h.r.hlen, h.r.hle, h.r.hcap, fun h0 => by
    obtain ⟨b, o, e, hlt, hx⟩ := h.r.mem h0
    have hf := h.free _ e h0
    exact ⟨b, o, e, Nat.lt_of_lt_of_le hlt hk.size, fun i hi => (World.cell?_of_block (w := w) (hk.block b hlt hf)).trans (hx i hi)⟩⟩, h.free⟩
theorem BtIn.more {w : World} {F G : Nat → Prop} (hF : ∀ b, G b → F b ∨ w.heap.size ≤ b) {A : Option Addr} {len cap : Nat} {l : List Int} (h : BtIn w F A len cap l) : BtIn w G A len cap l :=
  ⟨h.r, fun a e h0 hg => by
    obtain ⟨b, o, e', hlt, _⟩ := h.r.mem h0
    rcases hF _ hg with h1 | h1
    · exact h.free a e h0 h1
    · rw [e'] at e; injection e with e; subst e; have : w.heap.size ≤ b := h1; omega⟩

/-- What tells an array's other bytes. -/
def OtIn (w : World) (F : Nat → Prop) (v : Value) (f : Int → Int) : Prop :=
  (v = .func (.func 130) #[] #[] ∧ f = fun _ => 0) ∨
  ∃ (blk : Nat) (A : Option Addr) (len cap : Nat) (l : List Int), v = .func (.func 129) #[] #[.pointer (some ⟨blk, 0, none⟩)] ∧ ¬ F blk ∧ Blk w blk 40 #[.slice A len cap] ∧ BtIn w F A len cap l ∧ f = Vl.att l
theorem OtIn.keep {w w' : World} {F : Nat → Prop} {v : Value} {f : Int → Int} (h : OtIn w F v f) (hk : Keep F w w') : OtIn w' F v f := by
  rcases h with h | ⟨blk, A, len, cap, l, e, hf, hb, hr, hl⟩
  · exact .inl h
  · exact .inr ⟨blk, A, len, cap, l, e, hf, (hk.block blk hb.lt hf).trans hb, hr.keep hk, hl⟩
theorem OtIn.more {w : World} {F G : Nat → Prop} (hF : ∀ b, G b → F b ∨ w.heap.size ≤ b) {v : Value} {f : Int → Int} (h : OtIn w F v f) : OtIn w G v f := by
  rcases h with h | ⟨blk, A, len, cap, l, e, hf, hb, hr, hl⟩
  · exact .inl h
  · exact .inr ⟨blk, A, len, cap, l, e, fun hg => (hF _ hg).elim hf fun h1 => by have := hb.lt; omega, hb, hr.more hF, hl⟩

/-- An array's two cells. -/
structure ArIn (w : World) (F : Nat → Prop) (p : Option Addr) (o : Value) (f : Int → Int) : Prop where
  ex : ∃ (t : Vl.Tr) (g : Int → Int), TrIn w F (.pointer p) t ∧ OtIn w F o g ∧ ∀ k : Nat, k < 18446744073709551616 → f k = (t.find k k).getD (g k)
theorem ArIn.keep {w w' : World} {F : Nat → Prop} {p : Option Addr} {o : Value} {f : Int → Int} (h : ArIn w F p o f) (hk : Keep F w w') : ArIn w' F p o f := by
  obtain ⟨t, g, h1, h2, h3⟩ := h.ex
  exact ⟨t, g, h1.keep hk, h2.keep hk, h3⟩
theorem ArIn.more {w : World} {F G : Nat → Prop} (hF : ∀ b, G b → F b ∨ w.heap.size ≤ b) {p : Option Addr} {o : Value} {f : Int → Int} (h : ArIn w F p o f) : ArIn w G p o f := by
  obtain ⟨t, g, h1, h2, h3⟩ := h.ex
  exact ⟨t, g, h1.more hF, h2.more hF, h3⟩
/-- A value. -/
def VaIn (w : World) (F : Nat → Prop) (v : Value) : Vl.M → Prop
  | .num n => v = .iface 103 (.int .u64 n)
  | .arr f => ∃ p o, v = .iface 107 (.agg #[.pointer p, o]) ∧ ArIn w F p o f
theorem VaIn.keep {w w' : World} {F : Nat → Prop} {v : Value} {m : Vl.M} (h : VaIn w F v m) (hk : Keep F w w') : VaIn w' F v m := by
  cases m with
  | num n => exact h
  | arr f => obtain ⟨p, o, e, h⟩ := h; exact ⟨p, o, e, h.keep hk⟩
theorem VaIn.more {w : World} {F G : Nat → Prop} (hF : ∀ b, G b → F b ∨ w.heap.size ≤ b) {v : Value} {m : Vl.M} (h : VaIn w F v m) : VaIn w G v m := by
  cases m with
  | num n => exact h
  | arr f => obtain ⟨p, o, e, h⟩ := h; exact ⟨p, o, e, h.more hF⟩

set_option maxHeartbeats 1000000 in
theorem others1_any (blk : Nat) (A : Option Addr) (len cap : Nat) (l : List Int) (k : Nat) (w : World) (hb : Blk w blk 40 #[.slice A len cap]) (h : BtR w A len cap l) :
    Calls Try.prog 129 #[.int .u64 k, .pointer (some ⟨blk, 0, none⟩)] w fun e w' => e = .returned (.int .u8 (Vl.att l k)) ∧ w = w' := by
  have c0 : w.cell? ⟨blk, 0, none⟩ = some (.slice A len cap) := hb.c 0
  have H := Lib.hid h
  clear h hb
  go_enter Try.func129, Try.ntmps129
  go_wp2_with (go_at_call 128; refine (byteOf_any A len cap l k _ H.out).mono ?_; rintro e w' ⟨rfl, rfl⟩)
  go_ret
  exact ⟨rfl, rfl⟩
set_option maxHeartbeats 1000000 in
theorem others2_any (k : Int) (w : World) :
    Calls Try.prog 130 #[.int .u64 k] w fun e w' => e = .returned (.int .u8 0) ∧ w = w' := by
  go_enter Try.func130, Try.ntmps130
  go_wp2
  go_ret
  exact ⟨rfl, rfl⟩

set_option maxHeartbeats 2000000 in
theorem byteAt_any (p : Option Addr) (o : Value) (f : Int → Int) (k : Nat) (F : Nat → Prop) (w : World) (h : ArIn w F p o f) (hk : k < 18446744073709551616) :
    Calls Try.prog 53 #[.agg #[.pointer p, o], .int .u64 k] w fun e w' => e = .returned (.int .u8 (f k)) ∧ Below w.heap.size w w' := by
  obtain ⟨t, g, ht, ho, hf⟩ := h.ex
  rw [hf k hk]
  clear h hf
  have HT := Lib.hid (vfind_any t (.pointer p) k (w.alloc (.cells #[.pointer p, o] 107)) (ht.out.below (Below.box _ _)) hk)
  have HB := Lib.hid (Below.box w (.cells #[.pointer p, o] 107))
  generalize hO : t.find k k = O at HT ⊢
  cases O with
  | some b =>
    clear ho hO ht
    go_enter Try.func53, Try.ntmps53
    go_wp2_with fail
    refine HT.out.mono ?_
    rintro e w' ⟨rfl, blk, rfl, hc⟩
    go_wp2
    go_ret
    exact ⟨rfl, HB.out⟩
  | none =>
    clear hO ht
    rcases ho with ⟨rfl, rfl⟩ | ⟨blk, A, len, cap, l, rfl, hf, hb, hr, rfl⟩
    · go_enter Try.func53, Try.ntmps53
      go_wp2_with fail
      refine HT.out.mono ?_
      rintro e w' ⟨rfl, rfl⟩
      go_wp2_with (go_at_call 130; refine (others2_any _ _).mono ?_; rintro e w' ⟨rfl, rfl⟩)
      go_ret
      exact ⟨rfl, HB.out⟩
    · have H1 := Lib.hid (others1_any blk A len cap l k (w.alloc (.cells #[.pointer p, .func (.func 129) #[] #[.pointer (some ⟨blk, 0, none⟩)]] 107)) ((HB.out.block blk hb.lt).trans hb) (hr.r.below HB.out))
      clear hf hb hr
      go_enter Try.func53, Try.ntmps53
      go_wp2_with fail
      refine HT.out.mono ?_
      rintro e w' ⟨rfl, rfl⟩
      go_wp2_with (go_at_call 129; refine H1.out.mono ?_; rintro e w' ⟨rfl, rfl⟩)
      go_ret
      exact ⟨rfl, HB.out⟩
end Go.Proofs.Ytdbcpnpcnkccaaa
