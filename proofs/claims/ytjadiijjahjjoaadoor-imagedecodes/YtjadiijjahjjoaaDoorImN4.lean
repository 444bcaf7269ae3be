/-
  The reference's fault, two.
-/
import Derived.Test.YtjadiijjahjjoaaDoorImN3
import Derived.Test.YtjadiijjahjjoaaDoorImL4
namespace Go.Proofs.YtjadiijjahjjoaaDoor
open Go.RowKit

set_option maxHeartbeats 800000 in
theorem rfault_any (a b : Int) (w : World) :
    Calls Tryd.prog 50 #[.int .i64 a, .int .i64 b] w fun e w' => e = .returned (.agg #[.int .i64 0, .int .i64 0, .int .i64 0, .slice none 0 0, .slice none 0 0, .slice none 0 0, .int .i64 0, .int .i64 a, .int .i64 b]) ∧ Below w.heap.size w w' := by
  go_enter Tryd.func50, Tryd.ntmps50
  go_wp2
  refine bodyPost_ret (v := .agg #[.int .i64 0, .int .i64 0, .int .i64 0, .slice none 0 0, .slice none 0 0, .slice none 0 0, .int .i64 0, .int .i64 a, .int .i64 b]) (by simp [results, Tryd.results50, go_sem, *]) rfl ⟨rfl, ?_⟩
  exact Below.box w _

set_option maxHeartbeats 800000 in
theorem rtwo_any (b o len cap i : Nat) (xs : List Int) (w : World) (hx : BySl w (some ⟨b, o, none⟩) len cap xs) (hi : i + 1 < len) :
    Calls Tryd.prog 51 #[.slice (some ⟨b, o, none⟩) len cap, .int .i64 i] w fun e w' => e = .returned (.int .i64 (Im.num xs i 2)) ∧ Below w.heap.size w w' := by
  have hl := hx.hlen
  have hle := hx.hle
  have hcap := hx.hcap
  unfold maxLen at hcap
  obtain ⟨b', o', he, hlt, hc⟩ := hx.mem (by omega)
  simp only [Option.some.injEq, Addr.mk.injEq, and_true] at he
  obtain ⟨rfl, rfl⟩ := he
  have c0 := hc.at0 i (by omega)
  have c1 := hc.at0 (i + 1) (by omega)
  have hz0 : ∃ z, xs.getD i 0 = z := ⟨_, rfl⟩
  have hz1 : ∃ z, xs.getD (i + 1) 0 = z := ⟨_, rfl⟩
  obtain ⟨z0, hz0⟩ := hz0
  obtain ⟨z1, hz1⟩ := hz1
  have b0 := hx.isB i
  have b1 := hx.isB (i + 1)
  rw [hz0] at c0 b0
  rw [hz1] at c1 b1
  have hnum : Im.num xs i 2 = 256 * z0 + z1 := by
    unfold Im.num
    rw [hz0, hz1]
    simp
    try omega
  rw [hnum]
  have i0 : (i : Int) < len := by omega
  have i1 : (i : Int) + 1 < len := by omega
  have w0 : IntKind.i64.wrap z0 = z0 := by rw [IntKind.wrap_i64]; omega
  have w1 : IntKind.i64.wrap z1 = z1 := by rw [IntKind.wrap_i64]; omega
  have w2 : IntKind.i64.wrap (256 * z0) = 256 * z0 := by rw [IntKind.wrap_i64]; omega
  have w3 : IntKind.i64.wrap (256 * z0 + z1) = 256 * z0 + z1 := by rw [IntKind.wrap_i64]; omega
  have w4 : IntKind.i64.wrap ((i : Int) + 1) = (i : Int) + 1 := by rw [IntKind.wrap_i64]; omega
  clear hz0 hz1 hnum hc hx
  go_enter Tryd.func51, Tryd.ntmps51
  go_wp2_with fail
  go_quiet (fail)
  go_wp2
  go_ret
  exact ⟨rfl, below_drewN (Below.refl _ _) nq⟩
end Go.Proofs.YtjadiijjahjjoaaDoor
