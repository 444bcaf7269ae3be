/-
  Reach; great; the laws' own example.
-/
import Derived.Test.YthkhadbeomkihaaDoorMc17
namespace Go.Proofs.YthkhadbeomkihaaDoor
set_option maxRecDepth 100000
open Go.RowKit

def Mc.reachN (p : Im.Pic) (xs : List Int) (t steps : Int) : Int := max (Mc.first (Mc.answer p xs steps).1 t) 0
def Mc.reachB (p : Im.Pic) (xs : List Int) (t steps : Int) : Bool := decide (0 ≤ Mc.first (Mc.answer p xs steps).1 t)

set_option maxRecDepth 20000 in
set_option maxHeartbeats 3200000 in
theorem reach_any' (H : Hd) (t steps : Int) (w : World) (ho : Ops w) (HA : HdAt w H) :
    Calls Tryd.prog 14 #[.agg #[.int .i64 H.mem, .int .i64 H.stk, .int .i64 H.inp, .slice H.Ad H.ld H.cd, .slice H.Af H.lf H.cf, .slice H.Ac H.lc H.cc], .slice H.Ai H.li H.ci, .int .i64 t, .int .i64 steps] w fun e w' => e = .returned (.tuple #[.int .i64 (Mc.reachN H.p H.xs t steps), .bool (Mc.reachB H.p H.xs t steps)]) ∧ Below w.heap.size w w' := by
  have hp := ho.pos
  have hrun : ∀ W, Below w.heap.size w W → Calls Tryd.prog 12 #[.agg #[.int .i64 H.mem, .int .i64 H.stk, .int .i64 H.inp, .slice H.Ad H.ld H.cd, .slice H.Af H.lf H.cf, .slice H.Ac H.lc H.cc], .slice H.Ai H.li H.ci, .int .i64 steps] W (RunA (Mc.answer H.p H.xs steps) W) := fun W hW => run_any H steps W (ho.below hW hp) (HA.below hW)
  unfold Mc.reachN Mc.reachB
  generalize Mc.answer H.p H.xs steps = r at *
  obtain ⟨path, en, rg, mm, er⟩ := r
  simp only
  obtain ⟨f, hf⟩ : ∃ f, Mc.first path t = f := ⟨_, rfl⟩
  rw [hf]
  obtain ⟨g, hg⟩ : ∃ g, max f 0 = g := ⟨_, rfl⟩
  rw [hg]
  have hmx : ∀ ts t W, (Builtin.max_ ts t #[.int .i64 f, .int .i64 0]).run Tryd.prog W = .ok (.int .i64 g) W := fun ts t W => by
    have : g = if f < 0 then 0 else f := by rw [← hg]; split <;> omega
    rw [this]
    simp [Builtin.max_, Builtin.max2]
  have HF := Lib.hid hf
  have HRUN := Lib.hid hrun
  clear hrun ho HA hg hf
  go_enter Tryd.func14, Tryd.ntmps14
  go_wp2_with fail
  have hB : ∀ o, Below w.heap.size w (w.alloc o) := fun o => Below.box w o
  refine (HRUN.out _ (hB _)).mono ?_
  rintro e v ⟨pA, pcap, mA, mcap, rfl, hin, hby, hbv⟩
  simp only at hin hbv ⊢
  have hbv2 := (hB _).trans (hbv.mono (by simp))
  have hidx : ∀ W, Below v.heap.size v W → Calls Tryd.prog 32 #[.slice pA path.length pcap, .int .i64 t] W fun e w' => e = .returned (.int .i64 f) ∧ Below W.heap.size W w' := fun W hW => by
    rw [← HF.out]; exact index_any pA path.length pcap path t W (hin.below hW)
  have HB := Lib.hid hbv2
  have HIX := Lib.hid hidx
  have hpl := Nat.le_trans hin.hle hin.hcap
  unfold maxLen at hpl
  clear hin hby hbv hbv2 hidx hB
  generalize path.length = pn at *
  generalize rg.getD 0 0 = r0 at *
  generalize rg.getD 1 0 = r1 at *
  generalize rg.getD 2 0 = r2 at *
  generalize rg.getD 3 0 = r3 at *
  generalize rg.getD 4 0 = r4 at *
  generalize rg.getD 5 0 = r5 at *
  generalize rg.getD 6 0 = r6 at *
  generalize rg.getD 7 0 = r7 at *
  generalize mm.length = mn at *
  go_wp2_with (go_at_call 32; refine (HIX.out _ ?hw).mono ?_; rotate_left; rintro e v2 ⟨rfl, hb2⟩; have HB2 := Lib.hid hb2; clear hb2)
  case hw => exact Below.box _ _
  go_ret2
  exact ⟨rfl, HB.out.trans (((Below.box _ _).trans (HB2.out.mono (by simp))).mono HB.out.size)⟩
end Go.Proofs.YthkhadbeomkihaaDoor
