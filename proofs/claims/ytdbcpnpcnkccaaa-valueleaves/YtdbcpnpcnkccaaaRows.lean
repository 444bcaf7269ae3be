/-
  No cell of these rows narrows 'for every input' (looked for: loops, veiled, ifaces, maps, wideKeys, modest, calm, conditions, laid).
  DERIVED. THE GIVEN ROWS OF THIS SEAT. 11 by the template 'for every input the law returns true; each argument reads behind the call as it read before'; 0 by the template 'total and deterministic' (their statements: YtdbcpnpcnkccaaaTotals.lean).
  GIVEN WITH THE SEED: the statements are not yours to turn. If you find one false, say at which input.
  Laid BY PROGRAM, IN A SANDBOX (cutbox-rows.mjs): the forced cells as the released guide's own fill.sh prints them over the translation 10d4a70f2a80a92c… (all of the seat's roots in one cut). By AI agents, Wed Nov 11 2026. No macro, syntax, notation, axiom, sorry.
-/
import Derived.Test.YtdbcpnpcnkccaaaChecked
import GoSem.Claim
import GoSem.ClaimJoined
import GoSem.ClaimMapViews
import Derived.JoinedTies
import Derived.KernelRfl
namespace Go.Proofs.Ytdbcpnpcnkccaaa
/- THE CELL 'sum', in the pinned program and in every row, IS THE sha256 OF THE DUMP (.gsa) THAT YtdbcpnpcnkccaaaProg.lean LOADS. Nothing in Lean hashes anything: it is a label: what it is worth is what the hold of that sum in a sandbox is worth. -/
noncomputable def Try.pinned : Pinned := { name := "ytdbcpnpcnkccaaa", sum := "10d4a70f2a80a92c45ba50f63598399ff833997cb552fa6b39bb47acc3a5fd10", checked := Try.checked }
namespace Rows
def none {H : Type} : Left H := { results := [], args := [] }

/-- 'backreachlaw06.TermBack': WHATEVER THE INPUT: true; the input reads as it did. -/
def termBackSpec : ChangeSpec := { name := "termBack", fn := fun _ => fun
  | [d] => { results := [.lit (.bool true)], args := [d] }
  | _ => none }
def termBackRow : OpenClaim := { program := "ytdbcpnpcnkccaaa", sum := "10d4a70f2a80a92c45ba50f63598399ff833997cb552fa6b39bb47acc3a5fd10", func := "backreach/backreachlaw06.TermBack", spec := "termBack", inPlace := ["sync/atomic.AddInt64"], plainKeys := false, apart := false }
def TermBackSaid : Prop := termBackRow.holds Try.pinned (OpenSpec.ofChange termBackSpec)

/-- ITS FALSE NEIGHBOUR: 'it returns false'. Refute it at one input. -/
def termBackWrong : ChangeSpec := { name := "termBack", fn := fun _ => fun
  | [d] => { results := [.lit (.bool false)], args := [d] }
  | _ => none }
def TermBackWrongFalsely : Prop := termBackRow.holds Try.pinned (OpenSpec.ofChange termBackWrong)

/-- 'backreachlaw07.ValueTells': WHATEVER THE INPUT: true; the input reads as it did. -/
def valueTellsSpec : ChangeSpec := { name := "valueTells", fn := fun _ => fun
  | [d1, d2, d3] => { results := [.lit (.bool true)], args := [d1, d2, d3] }
  | _ => none }
def valueTellsRow : OpenClaim := { program := "ytdbcpnpcnkccaaa", sum := "10d4a70f2a80a92c45ba50f63598399ff833997cb552fa6b39bb47acc3a5fd10", func := "backreach/backreachlaw07.ValueTells", spec := "valueTells", unfollowed := true, recurses := true, plainKeys := false, apart := false }
def ValueTellsSaid : Prop := valueTellsRow.holds Try.pinned (OpenSpec.ofChange valueTellsSpec)

/-- ITS FALSE NEIGHBOUR: 'it returns false'. Refute it at one input. -/
def valueTellsWrong : ChangeSpec := { name := "valueTells", fn := fun _ => fun
  | [d1, d2, d3] => { results := [.lit (.bool false)], args := [d1, d2, d3] }
  | _ => none }
def ValueTellsWrongFalsely : Prop := valueTellsRow.holds Try.pinned (OpenSpec.ofChange valueTellsWrong)

/-- 'backreachlaw07.ValuePuts': WHATEVER THE INPUT: true; the input reads as it did. -/
def valuePutsSpec : ChangeSpec := { name := "valuePuts", fn := fun _ => fun
  | [d1, d2, d3, d4, d5] => { results := [.lit (.bool true)], args := [d1, d2, d3, d4, d5] }
  | _ => none }
def valuePutsRow : OpenClaim := { program := "ytdbcpnpcnkccaaa", sum := "10d4a70f2a80a92c45ba50f63598399ff833997cb552fa6b39bb47acc3a5fd10", func := "backreach/backreachlaw07.ValuePuts", spec := "valuePuts", unfollowed := true, recurses := true, plainKeys := false, apart := false }
def ValuePutsSaid : Prop := valuePutsRow.holds Try.pinned (OpenSpec.ofChange valuePutsSpec)

/-- ITS FALSE NEIGHBOUR: 'it returns false'. Refute it at one input. -/
def valuePutsWrong : ChangeSpec := { name := "valuePuts", fn := fun _ => fun
  | [d1, d2, d3, d4, d5] => { results := [.lit (.bool false)], args := [d1, d2, d3, d4, d5] }
  | _ => none }
def ValuePutsWrongFalsely : Prop := valuePutsRow.holds Try.pinned (OpenSpec.ofChange valuePutsWrong)

/-- 'backreachlaw07.ValueApplies': WHATEVER THE INPUT: true; the input reads as it did. -/
def valueAppliesSpec : ChangeSpec := { name := "valueApplies", fn := fun _ => fun
  | [d1, d2, d3, d4] => { results := [.lit (.bool true)], args := [d1, d2, d3, d4] }
  | _ => none }
def valueAppliesRow : OpenClaim := { program := "ytdbcpnpcnkccaaa", sum := "10d4a70f2a80a92c45ba50f63598399ff833997cb552fa6b39bb47acc3a5fd10", func := "backreach/backreachlaw07.ValueApplies", spec := "valueApplies", unfollowed := true, recurses := true, plainKeys := false, apart := false }
def ValueAppliesSaid : Prop := valueAppliesRow.holds Try.pinned (OpenSpec.ofChange valueAppliesSpec)

/-- ITS FALSE NEIGHBOUR: 'it returns false'. Refute it at one input. -/
def valueAppliesWrong : ChangeSpec := { name := "valueApplies", fn := fun _ => fun
  | [d1, d2, d3, d4] => { results := [.lit (.bool false)], args := [d1, d2, d3, d4] }
  | _ => none }
def ValueAppliesWrongFalsely : Prop := valueAppliesRow.holds Try.pinned (OpenSpec.ofChange valueAppliesWrong)

/-- 'backreachlaw07.ValueLeaves': WHATEVER THE INPUT: true; the input reads as it did. -/
def valueLeavesSpec : ChangeSpec := { name := "valueLeaves", fn := fun _ => fun
  | [d1, d2, d3] => { results := [.lit (.bool true)], args := [d1, d2, d3] }
  | _ => none }
def valueLeavesRow : OpenClaim := { program := "ytdbcpnpcnkccaaa", sum := "10d4a70f2a80a92c45ba50f63598399ff833997cb552fa6b39bb47acc3a5fd10", func := "backreach/backreachlaw07.ValueLeaves", spec := "valueLeaves", unfollowed := true, recurses := true, plainKeys := false, apart := false }
def ValueLeavesSaid : Prop := valueLeavesRow.holds Try.pinned (OpenSpec.ofChange valueLeavesSpec)

/-- ITS FALSE NEIGHBOUR: 'it returns false'. Refute it at one input. -/
def valueLeavesWrong : ChangeSpec := { name := "valueLeaves", fn := fun _ => fun
  | [d1, d2, d3] => { results := [.lit (.bool false)], args := [d1, d2, d3] }
  | _ => none }
def ValueLeavesWrongFalsely : Prop := valueLeavesRow.holds Try.pinned (OpenSpec.ofChange valueLeavesWrong)

/-- 'backreachlaw07.ValueShares': WHATEVER THE INPUT: true; the input reads as it did. -/
def valueSharesSpec : ChangeSpec := { name := "valueShares", fn := fun _ => fun
  | [d1, d2, d3] => { results := [.lit (.bool true)], args := [d1, d2, d3] }
  | _ => none }
def valueSharesRow : OpenClaim := { program := "ytdbcpnpcnkccaaa", sum := "10d4a70f2a80a92c45ba50f63598399ff833997cb552fa6b39bb47acc3a5fd10", func := "backreach/backreachlaw07.ValueShares", spec := "valueShares", inPlace := ["sync/atomic.AddInt64"], unfollowed := true, recurses := true, plainKeys := false, apart := false }
def ValueSharesSaid : Prop := valueSharesRow.holds Try.pinned (OpenSpec.ofChange valueSharesSpec)

/-- ITS FALSE NEIGHBOUR: 'it returns false'. Refute it at one input. -/
def valueSharesWrong : ChangeSpec := { name := "valueShares", fn := fun _ => fun
  | [d1, d2, d3] => { results := [.lit (.bool false)], args := [d1, d2, d3] }
  | _ => none }
def ValueSharesWrongFalsely : Prop := valueSharesRow.holds Try.pinned (OpenSpec.ofChange valueSharesWrong)

/-- 'backreachlaw08.TidyKeeps': WHATEVER THE INPUT: true; the input reads as it did. -/
def tidyKeepsSpec : ChangeSpec := { name := "tidyKeeps", fn := fun _ => fun
  | [d1, d2, d3] => { results := [.lit (.bool true)], args := [d1, d2, d3] }
  | _ => none }
def tidyKeepsRow : OpenClaim := { program := "ytdbcpnpcnkccaaa", sum := "10d4a70f2a80a92c45ba50f63598399ff833997cb552fa6b39bb47acc3a5fd10", func := "backreach/backreachlaw08.TidyKeeps", spec := "tidyKeeps", inPlace := ["sync/atomic.AddInt64"], unfollowed := true, recurses := true, plainKeys := false, apart := false }
def TidyKeepsSaid : Prop := tidyKeepsRow.holds Try.pinned (OpenSpec.ofChange tidyKeepsSpec)

/-- ITS FALSE NEIGHBOUR: 'it returns false'. Refute it at one input. -/
def tidyKeepsWrong : ChangeSpec := { name := "tidyKeeps", fn := fun _ => fun
  | [d1, d2, d3] => { results := [.lit (.bool false)], args := [d1, d2, d3] }
  | _ => none }
def TidyKeepsWrongFalsely : Prop := tidyKeepsRow.holds Try.pinned (OpenSpec.ofChange tidyKeepsWrong)

/-- 'backreachlaw08.TidyFolds': WHATEVER THE INPUT: true; the input reads as it did. -/
def tidyFoldsSpec : ChangeSpec := { name := "tidyFolds", fn := fun _ => fun
  | [d] => { results := [.lit (.bool true)], args := [d] }
  | _ => none }
def tidyFoldsRow : OpenClaim := { program := "ytdbcpnpcnkccaaa", sum := "10d4a70f2a80a92c45ba50f63598399ff833997cb552fa6b39bb47acc3a5fd10", func := "backreach/backreachlaw08.TidyFolds", spec := "tidyFolds", inPlace := ["sync/atomic.AddInt64"], unfollowed := true, recurses := true, plainKeys := false, apart := false }
def TidyFoldsSaid : Prop := tidyFoldsRow.holds Try.pinned (OpenSpec.ofChange tidyFoldsSpec)

/-- ITS FALSE NEIGHBOUR: 'it returns false'. Refute it at one input. -/
def tidyFoldsWrong : ChangeSpec := { name := "tidyFolds", fn := fun _ => fun
  | [d] => { results := [.lit (.bool false)], args := [d] }
  | _ => none }
def TidyFoldsWrongFalsely : Prop := tidyFoldsRow.holds Try.pinned (OpenSpec.ofChange tidyFoldsWrong)

/-- 'backreachlaw08.TidyMakes': WHATEVER THE INPUT: true; the input reads as it did. -/
def tidyMakesSpec : ChangeSpec := { name := "tidyMakes", fn := fun _ => fun
  | [d1, d2, d3, d4] => { results := [.lit (.bool true)], args := [d1, d2, d3, d4] }
  | _ => none }
def tidyMakesRow : OpenClaim := { program := "ytdbcpnpcnkccaaa", sum := "10d4a70f2a80a92c45ba50f63598399ff833997cb552fa6b39bb47acc3a5fd10", func := "backreach/backreachlaw08.TidyMakes", spec := "tidyMakes", inPlace := ["sync/atomic.AddInt64"], unfollowed := true, recurses := true, plainKeys := false, apart := false }
def TidyMakesSaid : Prop := tidyMakesRow.holds Try.pinned (OpenSpec.ofChange tidyMakesSpec)

/-- ITS FALSE NEIGHBOUR: 'it returns false'. Refute it at one input. -/
def tidyMakesWrong : ChangeSpec := { name := "tidyMakes", fn := fun _ => fun
  | [d1, d2, d3, d4] => { results := [.lit (.bool false)], args := [d1, d2, d3, d4] }
  | _ => none }
def TidyMakesWrongFalsely : Prop := tidyMakesRow.holds Try.pinned (OpenSpec.ofChange tidyMakesWrong)

/-- 'backreachlaw08.TidyGoes': WHATEVER THE INPUT: true; the input reads as it did. -/
def tidyGoesSpec : ChangeSpec := { name := "tidyGoes", fn := fun _ => fun
  | [d1, d2] => { results := [.lit (.bool true)], args := [d1, d2] }
  | _ => none }
def tidyGoesRow : OpenClaim := { program := "ytdbcpnpcnkccaaa", sum := "10d4a70f2a80a92c45ba50f63598399ff833997cb552fa6b39bb47acc3a5fd10", func := "backreach/backreachlaw08.TidyGoes", spec := "tidyGoes", inPlace := ["sync/atomic.AddInt64"], unfollowed := true, recurses := true, plainKeys := false, apart := false }
def TidyGoesSaid : Prop := tidyGoesRow.holds Try.pinned (OpenSpec.ofChange tidyGoesSpec)

/-- ITS FALSE NEIGHBOUR: 'it returns false'. Refute it at one input. -/
def tidyGoesWrong : ChangeSpec := { name := "tidyGoes", fn := fun _ => fun
  | [d1, d2] => { results := [.lit (.bool false)], args := [d1, d2] }
  | _ => none }
def TidyGoesWrongFalsely : Prop := tidyGoesRow.holds Try.pinned (OpenSpec.ofChange tidyGoesWrong)

/-- 'backreachlaw08.TidyTwice': WHATEVER THE INPUT: true; the input reads as it did. -/
def tidyTwiceSpec : ChangeSpec := { name := "tidyTwice", fn := fun _ => fun
  | [d1, d2, d3] => { results := [.lit (.bool true)], args := [d1, d2, d3] }
  | _ => none }
def tidyTwiceRow : OpenClaim := { program := "ytdbcpnpcnkccaaa", sum := "10d4a70f2a80a92c45ba50f63598399ff833997cb552fa6b39bb47acc3a5fd10", func := "backreach/backreachlaw08.TidyTwice", spec := "tidyTwice", inPlace := ["sync/atomic.AddInt64"], unfollowed := true, recurses := true, plainKeys := false, apart := false }
def TidyTwiceSaid : Prop := tidyTwiceRow.holds Try.pinned (OpenSpec.ofChange tidyTwiceSpec)

/-- ITS FALSE NEIGHBOUR: 'it returns false'. Refute it at one input. -/
def tidyTwiceWrong : ChangeSpec := { name := "tidyTwice", fn := fun _ => fun
  | [d1, d2, d3] => { results := [.lit (.bool false)], args := [d1, d2, d3] }
  | _ => none }
def TidyTwiceWrongFalsely : Prop := tidyTwiceRow.holds Try.pinned (OpenSpec.ofChange tidyTwiceWrong)

/- THE SECOND FORM. 'bulk': how many values and letters a reading holds, each counted each time it is reached (what is shared counts as often as it is met; a slice's spare places count too). A statement '..UptoSaid' is the law's where the arguments, and the package variables that the reading takes, are together of bulk at most 1048576: NARROWER than '..Said'. Prove '..Said' where nothing that the law and all that it calls make is longer than what came in: it says more and counts as full. Else prove '..UptoSaid'. A law counts once. -/
mutual
def uptoBulk {H : Type} : DataW H → Nat
  | .lit (.string bytes) => bytes.length + 1
  | .lit _ => 1
  | .nil => 1
  | .ptr d => uptoBulk d + 1
  | .slice elems spare => uptoBulkAll elems + uptoBulkAll spare + 1
  | .agg parts => uptoBulkAll parts + 1
  | .iface _ d => uptoBulk d + 1
  | .map entries => uptoBulkEntries entries + 1
  | .held _ => 1
def uptoBulkAll {H : Type} : List (DataW H) → Nat
  | [] => 0
  | d :: r => uptoBulk d + uptoBulkAll r
def uptoBulkEntries {H : Type} : List (Lit × DataW H) → Nat
  | [] => 0
  | x :: r => uptoBulkEntry x + uptoBulkEntries r
def uptoBulkEntry {H : Type} : Lit × DataW H → Nat
  | (.string bytes, d) => bytes.length + uptoBulk d + 1
  | (_, d) => uptoBulk d + 1
 end
def uptoSmall : (H : Type) → List (DataW H) → Bool := fun _ ds => decide (uptoBulkAll ds ≤ 1048576)
def OpenSpec.upto (s : _root_.Go.ChangeSpec) : _root_.Go.OpenSpec := { _root_.Go.OpenSpec.ofChange s with cond := some uptoSmall }

/-- 'backreachlaw06.TermBack', WHERE WHAT IT READS IS OF BULK AT MOST 1048576: true; the input reads as it did. -/
def termBackUptoRow : OpenClaim := { program := "ytdbcpnpcnkccaaa", sum := "10d4a70f2a80a92c45ba50f63598399ff833997cb552fa6b39bb47acc3a5fd10", func := "backreach/backreachlaw06.TermBack", spec := "termBack", inPlace := ["sync/atomic.AddInt64"], plainKeys := false, apart := false, narrowed := true }
def TermBackUptoSaid : Prop := termBackUptoRow.holds Try.pinned (OpenSpec.upto termBackSpec)

/-- 'backreachlaw07.ValueTells', WHERE WHAT IT READS IS OF BULK AT MOST 1048576: true; the input reads as it did. -/
def valueTellsUptoRow : OpenClaim := { program := "ytdbcpnpcnkccaaa", sum := "10d4a70f2a80a92c45ba50f63598399ff833997cb552fa6b39bb47acc3a5fd10", func := "backreach/backreachlaw07.ValueTells", spec := "valueTells", unfollowed := true, recurses := true, plainKeys := false, apart := false, narrowed := true }
def ValueTellsUptoSaid : Prop := valueTellsUptoRow.holds Try.pinned (OpenSpec.upto valueTellsSpec)

/-- 'backreachlaw07.ValuePuts', WHERE WHAT IT READS IS OF BULK AT MOST 1048576: true; the input reads as it did. -/
def valuePutsUptoRow : OpenClaim := { program := "ytdbcpnpcnkccaaa", sum := "10d4a70f2a80a92c45ba50f63598399ff833997cb552fa6b39bb47acc3a5fd10", func := "backreach/backreachlaw07.ValuePuts", spec := "valuePuts", unfollowed := true, recurses := true, plainKeys := false, apart := false, narrowed := true }
def ValuePutsUptoSaid : Prop := valuePutsUptoRow.holds Try.pinned (OpenSpec.upto valuePutsSpec)

/-- 'backreachlaw07.ValueApplies', WHERE WHAT IT READS IS OF BULK AT MOST 1048576: true; the input reads as it did. -/
def valueAppliesUptoRow : OpenClaim := { program := "ytdbcpnpcnkccaaa", sum := "10d4a70f2a80a92c45ba50f63598399ff833997cb552fa6b39bb47acc3a5fd10", func := "backreach/backreachlaw07.ValueApplies", spec := "valueApplies", unfollowed := true, recurses := true, plainKeys := false, apart := false, narrowed := true }
def ValueAppliesUptoSaid : Prop := valueAppliesUptoRow.holds Try.pinned (OpenSpec.upto valueAppliesSpec)

/-- 'backreachlaw07.ValueLeaves', WHERE WHAT IT READS IS OF BULK AT MOST 1048576: true; the input reads as it did. -/
def valueLeavesUptoRow : OpenClaim := { program := "ytdbcpnpcnkccaaa", sum := "10d4a70f2a80a92c45ba50f63598399ff833997cb552fa6b39bb47acc3a5fd10", func := "backreach/backreachlaw07.ValueLeaves", spec := "valueLeaves", unfollowed := true, recurses := true, plainKeys := false, apart := false, narrowed := true }
def ValueLeavesUptoSaid : Prop := valueLeavesUptoRow.holds Try.pinned (OpenSpec.upto valueLeavesSpec)

/-- 'backreachlaw07.ValueShares', WHERE WHAT IT READS IS OF BULK AT MOST 1048576: true; the input reads as it did. -/
def valueSharesUptoRow : OpenClaim := { program := "ytdbcpnpcnkccaaa", sum := "10d4a70f2a80a92c45ba50f63598399ff833997cb552fa6b39bb47acc3a5fd10", func := "backreach/backreachlaw07.ValueShares", spec := "valueShares", inPlace := ["sync/atomic.AddInt64"], unfollowed := true, recurses := true, plainKeys := false, apart := false, narrowed := true }
def ValueSharesUptoSaid : Prop := valueSharesUptoRow.holds Try.pinned (OpenSpec.upto valueSharesSpec)

/-- 'backreachlaw08.TidyKeeps', WHERE WHAT IT READS IS OF BULK AT MOST 1048576: true; the input reads as it did. -/
def tidyKeepsUptoRow : OpenClaim := { program := "ytdbcpnpcnkccaaa", sum := "10d4a70f2a80a92c45ba50f63598399ff833997cb552fa6b39bb47acc3a5fd10", func := "backreach/backreachlaw08.TidyKeeps", spec := "tidyKeeps", inPlace := ["sync/atomic.AddInt64"], unfollowed := true, recurses := true, plainKeys := false, apart := false, narrowed := true }
def TidyKeepsUptoSaid : Prop := tidyKeepsUptoRow.holds Try.pinned (OpenSpec.upto tidyKeepsSpec)

/-- 'backreachlaw08.TidyFolds', WHERE WHAT IT READS IS OF BULK AT MOST 1048576: true; the input reads as it did. -/
def tidyFoldsUptoRow : OpenClaim := { program := "ytdbcpnpcnkccaaa", sum := "10d4a70f2a80a92c45ba50f63598399ff833997cb552fa6b39bb47acc3a5fd10", func := "backreach/backreachlaw08.TidyFolds", spec := "tidyFolds", inPlace := ["sync/atomic.AddInt64"], unfollowed := true, recurses := true, plainKeys := false, apart := false, narrowed := true }
def TidyFoldsUptoSaid : Prop := tidyFoldsUptoRow.holds Try.pinned (OpenSpec.upto tidyFoldsSpec)

/-- 'backreachlaw08.TidyMakes', WHERE WHAT IT READS IS OF BULK AT MOST 1048576: true; the input reads as it did. -/
def tidyMakesUptoRow : OpenClaim := { program := "ytdbcpnpcnkccaaa", sum := "10d4a70f2a80a92c45ba50f63598399ff833997cb552fa6b39bb47acc3a5fd10", func := "backreach/backreachlaw08.TidyMakes", spec := "tidyMakes", inPlace := ["sync/atomic.AddInt64"], unfollowed := true, recurses := true, plainKeys := false, apart := false, narrowed := true }
def TidyMakesUptoSaid : Prop := tidyMakesUptoRow.holds Try.pinned (OpenSpec.upto tidyMakesSpec)

/-- 'backreachlaw08.TidyGoes', WHERE WHAT IT READS IS OF BULK AT MOST 1048576: true; the input reads as it did. -/
def tidyGoesUptoRow : OpenClaim := { program := "ytdbcpnpcnkccaaa", sum := "10d4a70f2a80a92c45ba50f63598399ff833997cb552fa6b39bb47acc3a5fd10", func := "backreach/backreachlaw08.TidyGoes", spec := "tidyGoes", inPlace := ["sync/atomic.AddInt64"], unfollowed := true, recurses := true, plainKeys := false, apart := false, narrowed := true }
def TidyGoesUptoSaid : Prop := tidyGoesUptoRow.holds Try.pinned (OpenSpec.upto tidyGoesSpec)

/-- 'backreachlaw08.TidyTwice', WHERE WHAT IT READS IS OF BULK AT MOST 1048576: true; the input reads as it did. -/
def tidyTwiceUptoRow : OpenClaim := { program := "ytdbcpnpcnkccaaa", sum := "10d4a70f2a80a92c45ba50f63598399ff833997cb552fa6b39bb47acc3a5fd10", func := "backreach/backreachlaw08.TidyTwice", spec := "tidyTwice", inPlace := ["sync/atomic.AddInt64"], unfollowed := true, recurses := true, plainKeys := false, apart := false, narrowed := true }
def TidyTwiceUptoSaid : Prop := tidyTwiceUptoRow.holds Try.pinned (OpenSpec.upto tidyTwiceSpec)

end Rows
end Go.Proofs.Ytdbcpnpcnkccaaa
