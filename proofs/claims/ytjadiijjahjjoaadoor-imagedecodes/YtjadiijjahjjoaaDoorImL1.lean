/-
  The walks of the laws on bytes that are refused, and on bytes that are cut.
-/
import Derived.Test.YtjadiijjahjjoaaDoorImP1
namespace Go.Proofs.YtjadiijjahjjoaaDoor
open Go.RowKit

set_option maxRecDepth 10000 in
set_option maxHeartbeats 1600000 in
theorem faults_walk (A : Option Addr) (len cap : Nat) (xs : List Int) (w : World) (ho : Ops w) (hx : BySl w A len cap xs) :
    Calls Tryd.prog 6 #[.slice A len cap] w fun e w' => e = .returned (.bool true) ∧ Below w.heap.size w w' := by
  have hp := ho.pos
  have HO := Lib.hid ho
  have HX := Lib.hid hx
  have HL := Lib.hid hx.hlen
  have hc := hx.hcap
  have hle := hx.hle
  unfold maxLen at hc
  clear ho hx
  by_cases hl : 4000 < len
  · go_enter Tryd.func6, Tryd.ntmps6
    go_wp2_with fail
    refine (awake_any _ HO.out).mono ?_
    rintro e v ⟨rfl, hb⟩
    have HB := Lib.hid hb
    clear hb
    go_wp2
    go_ret
    exact ⟨rfl, HB.out⟩
  · go_enter Tryd.func6, Tryd.ntmps6
    go_wp2_with fail
    refine (awake_any _ HO.out).mono ?_
    rintro e v ⟨rfl, hb⟩
    have HB := Lib.hid hb
    clear hb
    go_wp2_with fail
    refine (decode_any A len cap xs v (HO.out.below HB.out hp) (HX.out.below HB.out) (by omega)).mono ?_
    rintro e v2 ⟨hb2, ⟨a, b, hd, ha, rfl⟩ | ⟨hd, Ad, ld, cd, Af, lf, cf, Ac, lc, cc, rfl, hIm⟩⟩
    · have HB2 := Lib.hid (HB.out.trans (hb2.mono HB.out.size))
      have hg := Im.dE_good xs
      rw [hd, HL.out] at hg
      rcases hg with h0 | ⟨h1, h2, h3, h4⟩
      · simp only [Prod.mk.injEq] at h0
        exact absurd h0.1 ha
      simp only at h1 h2 h3 h4
      clear hd hb2 ha
      have hb0 : b < len ∨ ¬ b < len := by omega
      rcases h1 with rfl | rfl | rfl | rfl | rfl | rfl | rfl
      all_goals
        rcases hb0 with hb0 | hb0
        · go_wp2
          go_ret
          exact ⟨rfl, HB2.out.alloc HB2.out.size _⟩
        · first
            | (exfalso; omega)
            | (go_wp2
               go_ret
               exact ⟨rfl, HB2.out.alloc HB2.out.size _⟩)
    · have HB2 := Lib.hid (HB.out.trans (hb2.mono HB.out.size))
      have hok := Im.Ok.of HX.out.isB hd
      have hlc := hIm.c.hlen
      rw [Im.pic_len] at hlc
      have hnk : 0 < lc := by
        have h1 := hok.c.1
        have h2 := (Im.num_bd HX.out.isB (Im.fAt xs + 2 * (Im.nf xs - 1)) 2).1
        have h3 : Im.fa xs (Im.fAt xs) (Im.nf xs - 1) = Im.num xs (Im.fAt xs + 2 * (Im.nf xs - 1)) 2 := rfl
        rw [← hlc]
        unfold Im.nk
        omega
      have hnk' : (0 : Int) < lc := by omega
      clear hb2 hd hok hlc hIm
      go_wp2
      go_ret
      exact ⟨rfl, HB2.out.alloc HB2.out.size _⟩
end Go.Proofs.YtjadiijjahjjoaaDoor
