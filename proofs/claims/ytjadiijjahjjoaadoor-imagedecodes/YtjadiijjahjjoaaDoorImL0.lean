/-
  The laws' own example (awake), and Few.
-/
import Derived.Test.YtjadiijjahjjoaaDoorImR7
namespace Go.Proofs.YtjadiijjahjjoaaDoor
open Go.RowKit

/-- The example's image, and its bytes. -/
def exP : Im.Pic := ⟨0, 0, 0, [], [0], [Im.z5]⟩
def exB : List Int := [82, 66, 54, 52, 1, 0, 0, 0, 0, 1, 0, 0, 0, 1, 0, 0, 0, 0, 0, 0, 0, 0, 0, 0, 0, 0]
theorem ex_chk : Im.chk exP = 0 := by decide +kernel
theorem ex_out : Im.out exP = exB := by
  rw [Im.out_ok ex_chk]
  rfl
theorem ex_dE : Im.dE exB = (0, 0) := by decide +kernel
theorem ex_fs : (Im.pic exB).fs = [0] := by decide +kernel
theorem ex_nk : (Im.pic exB).cs.length = 1 := by decide +kernel
theorem ex_str : strOfNums exB = ⟨#[82, 66, 54, 52, 1, 0, 0, 0, 0, 1, 0, 0, 0, 1, 0, 0, 0, 0, 0, 0, 0, 0, 0, 0, 0, 0]⟩ := by decide +kernel
theorem ex_fn0 : Im.fn [0] 1 0 = 0 := by decide +kernel
theorem ex_fn1 : Im.fn [0] 1 1 = -1 := by decide +kernel
theorem ex_pl : Im.Places [0] 1 := by decide +kernel

set_option maxRecDepth 10000 in
set_option maxHeartbeats 1600000 in
theorem awake_any (w : World) (ho : Ops w) : Calls Tryd.prog 9 #[] w fun e w' => e = .returned (.bool true) ∧ Below w.heap.size w w' := by
  have hp := ho.pos
  have B1 : Below w.heap.size w ((w.alloc (.cells #[.int .i64 0] 3)).alloc (.cells #[.int .i64 0, .int .i64 0, .int .i64 0, .int .i64 0, .int .u64 0] 43)) := ((Below.refl _ _).alloc (Nat.le_refl _) _).alloc (by simp) _
  have hr1 : ((w.alloc (.cells #[.int .i64 0] 3)).alloc (.cells #[.int .i64 0, .int .i64 0, .int .i64 0, .int .i64 0, .int .u64 0] 43)).rowIs w.heap.size 3 1 (fun j => .int .i64 0) := by
    refine World.rowIs.alloc ?_ _
    exact World.rowIs_alloc w #[.int .i64 0] 3 (fun _ => .int .i64 0) (fun i hi => by
      have : i = 0 := by simpa using hi
      subst this; rfl)
  have hr2 : ((w.alloc (.cells #[.int .i64 0] 3)).alloc (.cells #[.int .i64 0, .int .i64 0, .int .i64 0, .int .i64 0, .int .u64 0] 43)).rowIs (w.heap.size + 1) 43 (1 * 5) (fun j => cellI (if j / 5 < 1 then Im.z5 else Im.z5) (j % 5)) := by
    have h := World.rowIs_alloc (w.alloc (.cells #[.int .i64 0] 3)) #[.int .i64 0, .int .i64 0, .int .i64 0, .int .i64 0, .int .u64 0] 43 (fun j => cellI (if j / 5 < 1 then Im.z5 else Im.z5) (j % 5)) (fun i hi => by
      have hi : i < 5 := hi
      match i, hi with
      | 0, _ | 1, _ | 2, _ | 3, _ | 4, _ => rfl)
    rw [World.size_alloc] at h
    exact h
  have hIm : ImAt ((w.alloc (.cells #[.int .i64 0] 3)).alloc (.cells #[.int .i64 0, .int .i64 0, .int .i64 0, .int .i64 0, .int .u64 0] 43)) none 0 0 (some ⟨w.heap.size, 0, none⟩) 1 1 (some ⟨w.heap.size + 1, 0, none⟩) 1 1 exP :=
    ⟨BySl.nil, InSl.of_row (f := fun _ => 0) hr1 (by omega), CoSl.of_row (f := fun _ => Im.z5) hr2 (by omega) (by omega) (fun _ => ⟨by decide, by decide⟩)⟩
  have HO := Lib.hid (ho.below B1 hp)
  have HO0 := Lib.hid ho
  have HIM := Lib.hid hIm
  have HB := Lib.hid B1
  clear hIm hr1 hr2 B1 ho
  go_enter Tryd.func9, Tryd.ntmps9
  go_wp2_with fail
  refine (encode_any 0 0 0 none 0 0 (some ⟨w.heap.size, 0, none⟩) 1 1 (some ⟨w.heap.size + 1, 0, none⟩) 1 1 exP _ HO.out HIM.out rfl rfl rfl).mono ?_
  rintro e v ⟨A, n, cap, rfl, hby, hb⟩
  rw [ex_out] at hby
  rw [ex_chk]
  have hn : n = 26 := hby.hlen.symm
  subst hn
  have hbv := HB.out.trans (hb.mono HB.out.size)
  have HBV := Lib.hid hbv
  have HBY := Lib.hid hby
  clear hb hby hbv HB HO HIM
  go_wp2_with fail
  refine (decode_any A 26 cap exB v (HO0.out.below HBV.out hp) HBY.out (by omega)).mono ?_
  rintro e v2 ⟨hb2, ⟨a, b, hd, ha, _⟩ | ⟨_, Ad, ld, cd, Af, lf, cf, Ac, lc, cc, rfl, hIm⟩⟩
  · rw [ex_dE] at hd
    simp only [Prod.mk.injEq] at hd
    exact absurd hd.1.symm ha
  have hlc : lc = 1 := hIm.c.hlen.symm.trans ex_nk
  subst hlc
  have hIf := hIm.f
  rw [ex_fs] at hIf
  have hlf : lf = 1 := hIf.hlen.symm
  subst hlf
  have HBY' := Lib.hid (HBY.out.below hb2)
  have hcv := by_str (HBY.out.below hb2)
  rw [ex_str] at hcv
  have HIF := Lib.hid hIf
  have HB2 := Lib.hid (HBV.out.trans (hb2.mono HBV.out.size))
  clear hb2 hIm hIf
  have hF : ∀ (pl r : Int) (W : World), Im.fn [0] 1 pl = r → InSl W Af 1 cf [0] → Calls Tryd.prog 17 #[.agg #[.int .i64 (Im.num exB 5 1), .int .i64 (Im.num exB 6 1), .int .i64 (Im.num exB 7 1), .slice Ad ld cd, .slice Af 1 cf, .slice Ac 1 cc], .int .i64 pl] W fun e w' => e = .returned (.int .i64 r) ∧ Below W.heap.size W w' := fun pl r W hr hW => by
    rw [← hr]
    exact fun_any _ _ _ Ad ld cd Af 1 cf Ac 1 cc [0] pl W hW ex_pl (by omega) (by unfold maxLen; omega)
  have HF := Lib.hid hF
  have hcv2 := by_str (HBY'.out.below (Below.box v2 (.cells #[.int .i64 (Im.num exB 5 1), .int .i64 (Im.num exB 6 1), .int .i64 (Im.num exB 7 1), .slice Ad ld cd, .slice Af 1 cf, .slice Ac 1 cc] 26)))
  rw [ex_str] at hcv2
  have HI3 := Lib.hid (HIF.out.below (Below.box v2 (.cells #[.int .i64 (Im.num exB 5 1), .int .i64 (Im.num exB 6 1), .int .i64 (Im.num exB 7 1), .slice Ad ld cd, .slice Af 1 cf, .slice Ac 1 cc] 26)))
  clear hF hcv
  go_wp2_with fail
  refine (HF.out 0 0 _ ex_fn0 HI3.out).mono ?_
  rintro e v3 ⟨rfl, hb3⟩
  have c0 : v3.cell? ⟨v2.heap.size, 0, none⟩ = some (.int .i64 (Im.num exB 5 1)) := cells_below hb3 (by simp) (by simp)
  have c1 : v3.cell? ⟨v2.heap.size, 1, none⟩ = some (.int .i64 (Im.num exB 6 1)) := cells_below hb3 (by simp) (by simp)
  have c2 : v3.cell? ⟨v2.heap.size, 2, none⟩ = some (.int .i64 (Im.num exB 7 1)) := cells_below hb3 (by simp) (by simp)
  have c3 : v3.cell? ⟨v2.heap.size, 3, none⟩ = some (.slice Ad ld cd) := cells_below hb3 (by simp) (by simp)
  have c4 : v3.cell? ⟨v2.heap.size, 4, none⟩ = some (.slice Af 1 cf) := cells_below hb3 (by simp) (by simp)
  have c5 : v3.cell? ⟨v2.heap.size, 5, none⟩ = some (.slice Ac 1 cc) := cells_below hb3 (by simp) (by simp)
  have HI4 := Lib.hid (HI3.out.below hb3)
  have HB3 := Lib.hid (HB2.out.trans (((Below.box v2 (.cells #[.int .i64 (Im.num exB 5 1), .int .i64 (Im.num exB 6 1), .int .i64 (Im.num exB 7 1), .slice Ad ld cd, .slice Af 1 cf, .slice Ac 1 cc] 26)).trans (hb3.mono (by simp))).mono HB2.out.size))
  clear hb3 HI3
  go_wp2_with fail
  refine (HF.out 1 (-1) _ ex_fn1 HI4.out).mono ?_
  rintro e v4 ⟨rfl, hb4⟩
  have HB4 := Lib.hid (HB3.out.trans (hb4.mono HB3.out.size))
  clear hb4 c0 c1 c2 c3 c4 c5
  go_wp2
  go_ret
  exact ⟨rfl, HB4.out⟩

/-- Has an image no more parts than are gone through? -/
def fewB (ld lf lc : Nat) : Bool := decide ((ld : Int) ≤ 100) && decide ((lf : Int) ≤ 40) && decide ((lc : Int) ≤ 300)
set_option maxHeartbeats 400000 in
theorem few_any (mem stk inp : Int) (Ad : Option Addr) (ld cd : Nat) (Af : Option Addr) (lf cf : Nat) (Ac : Option Addr) (lc cc : Nat) (w : World) (h1 : ld ≤ maxLen) (h2 : lf ≤ maxLen) (h3 : lc ≤ maxLen) :
    Calls Tryd.prog 10 #[.agg #[.int .i64 mem, .int .i64 stk, .int .i64 inp, .slice Ad ld cd, .slice Af lf cf, .slice Ac lc cc]] w fun e w' => e = .returned (.bool (fewB ld lf lc)) ∧ Below w.heap.size w w' := by
  unfold maxLen at h1 h2 h3
  go_enter Tryd.func10, Tryd.ntmps10
  go_wp2
  all_goals
    go_ret
    refine ⟨ret_bool ?_, Below.box _ _⟩
    simp_all [fewB]
    try omega
end Go.Proofs.YtjadiijjahjjoaaDoor
