/-
  NARROWER THAN 'FOR EVERY INPUT', by the rows' own cells (each row's printed sentence says how): MachineRuns: laid · MachineSteps: laid · MachineGoes: laid · MachineReach: laid · MachineSaves: laid · MachineCalls: laid · MachineBlind: laid.
  DERIVED. THE GIVEN ROWS OF THIS SEAT. 7 by the template 'for every input the law returns true; each argument reads behind the call as it read before'; 0 by the template 'total and deterministic' (their statements: YtfhnigfghfmolaaDoorTotals.lean).
  GIVEN WITH THE SEED: the statements are not yours to turn. If you find one false, say at which input.
  Laid BY PROGRAM, IN A SANDBOX (cutbox-rows.mjs): the forced cells as the released guide's own fill.sh prints them over the translation 71294a149eaa8523… (all of the seat's roots in one cut). By AI agents, Wed Nov 11 2026. No macro, syntax, notation, axiom, sorry.
-/
import Derived.Test.YtfhnigfghfmolaaDoorChecked
import GoSem.Claim
import GoSem.ClaimJoined
import GoSem.ClaimMapViews
import Derived.JoinedTies
import Derived.KernelRfl
namespace Go.Proofs.YtfhnigfghfmolaaDoor
/- THE CELL 'sum', in the pinned program and in every row, IS THE sha256 OF THE DUMP (.gsa) THAT YtfhnigfghfmolaaDoorProg.lean LOADS. Nothing in Lean hashes anything: it is a label: what it is worth is what the hold of that sum in a sandbox is worth. -/
noncomputable def Tryd.pinned : Pinned := { name := "ytfhnigfghfmolaadoor", sum := "71294a149eaa8523eb34071f9dd0c95e84bfd6f9c087598eed9b6185e8644e92", checked := Tryd.checked }
namespace Rows
def none {H : Type} : Left H := { results := [], args := [] }

/- WHAT THE LISTED PACKAGE-LEVEL VARIABLES READ AS WHEN THE CALL BEGINS. Each datum BY PROGRAM (the guide's laid-datum.mjs) off the statement by which the dump's own 'gosem.cut.vars' lays the variable. In a bare row this is a premise. The card (YtfhnigfghfmolaaDoorCards.lean) ties it to the program's text. -/
def laid_backreach_code_operations {H : Type} : DataW H := .agg [.agg [.lit (.string [104, 97, 108, 116]), .lit (.int .u8 0), .lit (.int .u8 0), .lit (.int .u8 0), .lit (.int .u8 0)], .agg [.lit (.string [115, 101, 116]), .lit (.int .u8 1), .lit (.int .u8 0), .lit (.int .u8 0), .lit (.int .u8 3)], .agg [.lit (.string [99, 111, 112, 121]), .lit (.int .u8 1), .lit (.int .u8 1), .lit (.int .u8 0), .lit (.int .u8 0)], .agg [.lit (.string [97, 100, 100]), .lit (.int .u8 1), .lit (.int .u8 1), .lit (.int .u8 1), .lit (.int .u8 0)], .agg [.lit (.string [115, 117, 98]), .lit (.int .u8 1), .lit (.int .u8 1), .lit (.int .u8 1), .lit (.int .u8 0)], .agg [.lit (.string [109, 117, 108]), .lit (.int .u8 1), .lit (.int .u8 1), .lit (.int .u8 1), .lit (.int .u8 0)], .agg [.lit (.string [100, 105, 118]), .lit (.int .u8 1), .lit (.int .u8 1), .lit (.int .u8 1), .lit (.int .u8 0)], .agg [.lit (.string [114, 101, 109]), .lit (.int .u8 1), .lit (.int .u8 1), .lit (.int .u8 1), .lit (.int .u8 0)], .agg [.lit (.string [97, 110, 100]), .lit (.int .u8 1), .lit (.int .u8 1), .lit (.int .u8 1), .lit (.int .u8 0)], .agg [.lit (.string [111, 114]), .lit (.int .u8 1), .lit (.int .u8 1), .lit (.int .u8 1), .lit (.int .u8 0)], .agg [.lit (.string [120, 111, 114]), .lit (.int .u8 1), .lit (.int .u8 1), .lit (.int .u8 1), .lit (.int .u8 0)], .agg [.lit (.string [115, 104, 108]), .lit (.int .u8 1), .lit (.int .u8 1), .lit (.int .u8 1), .lit (.int .u8 0)], .agg [.lit (.string [115, 104, 114]), .lit (.int .u8 1), .lit (.int .u8 1), .lit (.int .u8 1), .lit (.int .u8 0)], .agg [.lit (.string [115, 97, 114]), .lit (.int .u8 1), .lit (.int .u8 1), .lit (.int .u8 1), .lit (.int .u8 0)], .agg [.lit (.string [115, 97, 109, 101]), .lit (.int .u8 1), .lit (.int .u8 1), .lit (.int .u8 1), .lit (.int .u8 0)], .agg [.lit (.string [108, 101, 115, 115]), .lit (.int .u8 1), .lit (.int .u8 1), .lit (.int .u8 1), .lit (.int .u8 0)], .agg [.lit (.string [98, 101, 108, 111, 119]), .lit (.int .u8 1), .lit (.int .u8 1), .lit (.int .u8 1), .lit (.int .u8 0)], .agg [.lit (.string [108, 111, 97, 100]), .lit (.int .u8 1), .lit (.int .u8 1), .lit (.int .u8 2), .lit (.int .u8 3)], .agg [.lit (.string [115, 97, 118, 101]), .lit (.int .u8 1), .lit (.int .u8 1), .lit (.int .u8 2), .lit (.int .u8 3)], .agg [.lit (.string [105, 110, 112, 117, 116]), .lit (.int .u8 1), .lit (.int .u8 1), .lit (.int .u8 0), .lit (.int .u8 3)], .agg [.lit (.string [108, 101, 110, 103, 116, 104]), .lit (.int .u8 1), .lit (.int .u8 0), .lit (.int .u8 0), .lit (.int .u8 0)], .agg [.lit (.string [106, 117, 109, 112]), .lit (.int .u8 0), .lit (.int .u8 0), .lit (.int .u8 0), .lit (.int .u8 3)], .agg [.lit (.string [98, 114, 97, 110, 99, 104]), .lit (.int .u8 1), .lit (.int .u8 0), .lit (.int .u8 0), .lit (.int .u8 3)], .agg [.lit (.string [99, 97, 108, 108]), .lit (.int .u8 0), .lit (.int .u8 0), .lit (.int .u8 0), .lit (.int .u8 3)], .agg [.lit (.string [98, 97, 99, 107]), .lit (.int .u8 0), .lit (.int .u8 0), .lit (.int .u8 0), .lit (.int .u8 0)], .agg [.lit (.string [102, 97, 105, 108]), .lit (.int .u8 0), .lit (.int .u8 0), .lit (.int .u8 0), .lit (.int .u8 0)]]

/-- 'backreachlaw05.MachineRuns': WHATEVER THE INPUT: true; the input reads as it did. -/
def machineRunsSpec : ChangeSpec := { name := "machineRuns", fn := fun _ => fun
  | [d1, d2, d3, d4] => { results := [.lit (.bool true)], args := [d1, d2, d3, d4] }
  | _ => none }
def machineRunsRow : OpenClaim := { program := "ytfhnigfghfmolaadoor", sum := "71294a149eaa8523eb34071f9dd0c95e84bfd6f9c087598eed9b6185e8644e92", func := "backreach/backreachlaw05.MachineRuns", spec := "machineRuns", unfollowed := true, recurses := true, named := ["backreach/code.operations"], apart := false, laid := [("backreach/code.operations", laid_backreach_code_operations)] }
def MachineRunsSaid : Prop := machineRunsRow.holds Tryd.pinned (OpenSpec.ofChange machineRunsSpec)

/-- ITS FALSE NEIGHBOUR: 'it returns false'. Refute it at one input. -/
def machineRunsWrong : ChangeSpec := { name := "machineRuns", fn := fun _ => fun
  | [d1, d2, d3, d4] => { results := [.lit (.bool false)], args := [d1, d2, d3, d4] }
  | _ => none }
def MachineRunsWrongFalsely : Prop := machineRunsRow.holds Tryd.pinned (OpenSpec.ofChange machineRunsWrong)

/-- 'backreachlaw05.MachineSteps': WHATEVER THE INPUT: true; the input reads as it did. -/
def machineStepsSpec : ChangeSpec := { name := "machineSteps", fn := fun _ => fun
  | [d1, d2, d3] => { results := [.lit (.bool true)], args := [d1, d2, d3] }
  | _ => none }
def machineStepsRow : OpenClaim := { program := "ytfhnigfghfmolaadoor", sum := "71294a149eaa8523eb34071f9dd0c95e84bfd6f9c087598eed9b6185e8644e92", func := "backreach/backreachlaw05.MachineSteps", spec := "machineSteps", unfollowed := true, recurses := true, named := ["backreach/code.operations"], apart := false, laid := [("backreach/code.operations", laid_backreach_code_operations)] }
def MachineStepsSaid : Prop := machineStepsRow.holds Tryd.pinned (OpenSpec.ofChange machineStepsSpec)

/-- ITS FALSE NEIGHBOUR: 'it returns false'. Refute it at one input. -/
def machineStepsWrong : ChangeSpec := { name := "machineSteps", fn := fun _ => fun
  | [d1, d2, d3] => { results := [.lit (.bool false)], args := [d1, d2, d3] }
  | _ => none }
def MachineStepsWrongFalsely : Prop := machineStepsRow.holds Tryd.pinned (OpenSpec.ofChange machineStepsWrong)

/-- 'backreachlaw05.MachineGoes': WHATEVER THE INPUT: true; the input reads as it did. -/
def machineGoesSpec : ChangeSpec := { name := "machineGoes", fn := fun _ => fun
  | [d1, d2, d3] => { results := [.lit (.bool true)], args := [d1, d2, d3] }
  | _ => none }
def machineGoesRow : OpenClaim := { program := "ytfhnigfghfmolaadoor", sum := "71294a149eaa8523eb34071f9dd0c95e84bfd6f9c087598eed9b6185e8644e92", func := "backreach/backreachlaw05.MachineGoes", spec := "machineGoes", unfollowed := true, recurses := true, named := ["backreach/code.operations"], apart := false, laid := [("backreach/code.operations", laid_backreach_code_operations)] }
def MachineGoesSaid : Prop := machineGoesRow.holds Tryd.pinned (OpenSpec.ofChange machineGoesSpec)

/-- ITS FALSE NEIGHBOUR: 'it returns false'. Refute it at one input. -/
def machineGoesWrong : ChangeSpec := { name := "machineGoes", fn := fun _ => fun
  | [d1, d2, d3] => { results := [.lit (.bool false)], args := [d1, d2, d3] }
  | _ => none }
def MachineGoesWrongFalsely : Prop := machineGoesRow.holds Tryd.pinned (OpenSpec.ofChange machineGoesWrong)

/-- 'backreachlaw05.MachineReach': WHATEVER THE INPUT: true; the input reads as it did. -/
def machineReachSpec : ChangeSpec := { name := "machineReach", fn := fun _ => fun
  | [d1, d2, d3, d4, d5] => { results := [.lit (.bool true)], args := [d1, d2, d3, d4, d5] }
  | _ => none }
def machineReachRow : OpenClaim := { program := "ytfhnigfghfmolaadoor", sum := "71294a149eaa8523eb34071f9dd0c95e84bfd6f9c087598eed9b6185e8644e92", func := "backreach/backreachlaw05.MachineReach", spec := "machineReach", unfollowed := true, recurses := true, named := ["backreach/code.operations"], apart := false, laid := [("backreach/code.operations", laid_backreach_code_operations)] }
def MachineReachSaid : Prop := machineReachRow.holds Tryd.pinned (OpenSpec.ofChange machineReachSpec)

/-- ITS FALSE NEIGHBOUR: 'it returns false'. Refute it at one input. -/
def machineReachWrong : ChangeSpec := { name := "machineReach", fn := fun _ => fun
  | [d1, d2, d3, d4, d5] => { results := [.lit (.bool false)], args := [d1, d2, d3, d4, d5] }
  | _ => none }
def MachineReachWrongFalsely : Prop := machineReachRow.holds Tryd.pinned (OpenSpec.ofChange machineReachWrong)

/-- 'backreachlaw05.MachineSaves': WHATEVER THE INPUT: true; the input reads as it did. -/
def machineSavesSpec : ChangeSpec := { name := "machineSaves", fn := fun _ => fun
  | [d1, d2, d3, d4] => { results := [.lit (.bool true)], args := [d1, d2, d3, d4] }
  | _ => none }
def machineSavesRow : OpenClaim := { program := "ytfhnigfghfmolaadoor", sum := "71294a149eaa8523eb34071f9dd0c95e84bfd6f9c087598eed9b6185e8644e92", func := "backreach/backreachlaw05.MachineSaves", spec := "machineSaves", unfollowed := true, recurses := true, named := ["backreach/code.operations"], apart := false, laid := [("backreach/code.operations", laid_backreach_code_operations)] }
def MachineSavesSaid : Prop := machineSavesRow.holds Tryd.pinned (OpenSpec.ofChange machineSavesSpec)

/-- ITS FALSE NEIGHBOUR: 'it returns false'. Refute it at one input. -/
def machineSavesWrong : ChangeSpec := { name := "machineSaves", fn := fun _ => fun
  | [d1, d2, d3, d4] => { results := [.lit (.bool false)], args := [d1, d2, d3, d4] }
  | _ => none }
def MachineSavesWrongFalsely : Prop := machineSavesRow.holds Tryd.pinned (OpenSpec.ofChange machineSavesWrong)

/-- 'backreachlaw05.MachineCalls': WHATEVER THE INPUT: true; the input reads as it did. -/
def machineCallsSpec : ChangeSpec := { name := "machineCalls", fn := fun _ => fun
  | [d1, d2, d3] => { results := [.lit (.bool true)], args := [d1, d2, d3] }
  | _ => none }
def machineCallsRow : OpenClaim := { program := "ytfhnigfghfmolaadoor", sum := "71294a149eaa8523eb34071f9dd0c95e84bfd6f9c087598eed9b6185e8644e92", func := "backreach/backreachlaw05.MachineCalls", spec := "machineCalls", unfollowed := true, recurses := true, named := ["backreach/code.operations"], apart := false, laid := [("backreach/code.operations", laid_backreach_code_operations)] }
def MachineCallsSaid : Prop := machineCallsRow.holds Tryd.pinned (OpenSpec.ofChange machineCallsSpec)

/-- ITS FALSE NEIGHBOUR: 'it returns false'. Refute it at one input. -/
def machineCallsWrong : ChangeSpec := { name := "machineCalls", fn := fun _ => fun
  | [d1, d2, d3] => { results := [.lit (.bool false)], args := [d1, d2, d3] }
  | _ => none }
def MachineCallsWrongFalsely : Prop := machineCallsRow.holds Tryd.pinned (OpenSpec.ofChange machineCallsWrong)

/-- 'backreachlaw05.MachineBlind': WHATEVER THE INPUT: true; the input reads as it did. -/
def machineBlindSpec : ChangeSpec := { name := "machineBlind", fn := fun _ => fun
  | [d1, d2, d3, d4] => { results := [.lit (.bool true)], args := [d1, d2, d3, d4] }
  | _ => none }
def machineBlindRow : OpenClaim := { program := "ytfhnigfghfmolaadoor", sum := "71294a149eaa8523eb34071f9dd0c95e84bfd6f9c087598eed9b6185e8644e92", func := "backreach/backreachlaw05.MachineBlind", spec := "machineBlind", unfollowed := true, recurses := true, named := ["backreach/code.operations"], apart := false, laid := [("backreach/code.operations", laid_backreach_code_operations)] }
def MachineBlindSaid : Prop := machineBlindRow.holds Tryd.pinned (OpenSpec.ofChange machineBlindSpec)

/-- ITS FALSE NEIGHBOUR: 'it returns false'. Refute it at one input. -/
def machineBlindWrong : ChangeSpec := { name := "machineBlind", fn := fun _ => fun
  | [d1, d2, d3, d4] => { results := [.lit (.bool false)], args := [d1, d2, d3, d4] }
  | _ => none }
def MachineBlindWrongFalsely : Prop := machineBlindRow.holds Tryd.pinned (OpenSpec.ofChange machineBlindWrong)

/- THE SECOND FORM. 'bulk': how many values and letters a reading holds, each counted each time it is reached (what is shared counts as often as it is met; a slice's spare places count too). A statement '..UptoSaid' is the law's where the arguments, and the package variables that the reading takes, are together of bulk at most 1048576: NARROWER than '..Said'. Prove '..Said' where nothing that the law and all that it calls make is longer than what came in: it says more and counts as full. Else prove '..UptoSaid'. A law counts once. -/
mutual
def uptoBulk {H : Type} : DataW H → Nat
  | .lit (.string bytes) => bytes.length + 1
  | .lit _ => 1
  | .nil => 1
  | .ptr d => uptoBulk d + 1
  | .slice elems spare => uptoBulkAll elems + uptoBulkAll spare + 1
  | .agg parts => uptoBulkAll parts + 1
  | .iface _ d => uptoBulk d + 1
  | .map entries => uptoBulkEntries entries + 1
  | .held _ => 1
def uptoBulkAll {H : Type} : List (DataW H) → Nat
  | [] => 0
  | d :: r => uptoBulk d + uptoBulkAll r
def uptoBulkEntries {H : Type} : List (Lit × DataW H) → Nat
  | [] => 0
  | x :: r => uptoBulkEntry x + uptoBulkEntries r
def uptoBulkEntry {H : Type} : Lit × DataW H → Nat
  | (.string bytes, d) => bytes.length + uptoBulk d + 1
  | (_, d) => uptoBulk d + 1
 end
def uptoSmall : (H : Type) → List (DataW H) → Bool := fun _ ds => decide (uptoBulkAll ds ≤ 1048576)
def OpenSpec.upto (s : _root_.Go.ChangeSpec) : _root_.Go.OpenSpec := { _root_.Go.OpenSpec.ofChange s with cond := some uptoSmall }

/-- 'backreachlaw05.MachineRuns', WHERE WHAT IT READS IS OF BULK AT MOST 1048576: true; the input reads as it did. -/
def machineRunsUptoRow : OpenClaim := { program := "ytfhnigfghfmolaadoor", sum := "71294a149eaa8523eb34071f9dd0c95e84bfd6f9c087598eed9b6185e8644e92", func := "backreach/backreachlaw05.MachineRuns", spec := "machineRuns", unfollowed := true, recurses := true, named := ["backreach/code.operations"], apart := false, laid := [("backreach/code.operations", laid_backreach_code_operations)], narrowed := true }
def MachineRunsUptoSaid : Prop := machineRunsUptoRow.holds Tryd.pinned (OpenSpec.upto machineRunsSpec)

/-- 'backreachlaw05.MachineSteps', WHERE WHAT IT READS IS OF BULK AT MOST 1048576: true; the input reads as it did. -/
def machineStepsUptoRow : OpenClaim := { program := "ytfhnigfghfmolaadoor", sum := "71294a149eaa8523eb34071f9dd0c95e84bfd6f9c087598eed9b6185e8644e92", func := "backreach/backreachlaw05.MachineSteps", spec := "machineSteps", unfollowed := true, recurses := true, named := ["backreach/code.operations"], apart := false, laid := [("backreach/code.operations", laid_backreach_code_operations)], narrowed := true }
def MachineStepsUptoSaid : Prop := machineStepsUptoRow.holds Tryd.pinned (OpenSpec.upto machineStepsSpec)

/-- 'backreachlaw05.MachineGoes', WHERE WHAT IT READS IS OF BULK AT MOST 1048576: true; the input reads as it did. -/
def machineGoesUptoRow : OpenClaim := { program := "ytfhnigfghfmolaadoor", sum := "71294a149eaa8523eb34071f9dd0c95e84bfd6f9c087598eed9b6185e8644e92", func := "backreach/backreachlaw05.MachineGoes", spec := "machineGoes", unfollowed := true, recurses := true, named := ["backreach/code.operations"], apart := false, laid := [("backreach/code.operations", laid_backreach_code_operations)], narrowed := true }
def MachineGoesUptoSaid : Prop := machineGoesUptoRow.holds Tryd.pinned (OpenSpec.upto machineGoesSpec)

/-- 'backreachlaw05.MachineReach', WHERE WHAT IT READS IS OF BULK AT MOST 1048576: true; the input reads as it did. -/
def machineReachUptoRow : OpenClaim := { program := "ytfhnigfghfmolaadoor", sum := "71294a149eaa8523eb34071f9dd0c95e84bfd6f9c087598eed9b6185e8644e92", func := "backreach/backreachlaw05.MachineReach", spec := "machineReach", unfollowed := true, recurses := true, named := ["backreach/code.operations"], apart := false, laid := [("backreach/code.operations", laid_backreach_code_operations)], narrowed := true }
def MachineReachUptoSaid : Prop := machineReachUptoRow.holds Tryd.pinned (OpenSpec.upto machineReachSpec)

/-- 'backreachlaw05.MachineSaves', WHERE WHAT IT READS IS OF BULK AT MOST 1048576: true; the input reads as it did. -/
def machineSavesUptoRow : OpenClaim := { program := "ytfhnigfghfmolaadoor", sum := "71294a149eaa8523eb34071f9dd0c95e84bfd6f9c087598eed9b6185e8644e92", func := "backreach/backreachlaw05.MachineSaves", spec := "machineSaves", unfollowed := true, recurses := true, named := ["backreach/code.operations"], apart := false, laid := [("backreach/code.operations", laid_backreach_code_operations)], narrowed := true }
def MachineSavesUptoSaid : Prop := machineSavesUptoRow.holds Tryd.pinned (OpenSpec.upto machineSavesSpec)

/-- 'backreachlaw05.MachineCalls', WHERE WHAT IT READS IS OF BULK AT MOST 1048576: true; the input reads as it did. -/
def machineCallsUptoRow : OpenClaim := { program := "ytfhnigfghfmolaadoor", sum := "71294a149eaa8523eb34071f9dd0c95e84bfd6f9c087598eed9b6185e8644e92", func := "backreach/backreachlaw05.MachineCalls", spec := "machineCalls", unfollowed := true, recurses := true, named := ["backreach/code.operations"], apart := false, laid := [("backreach/code.operations", laid_backreach_code_operations)], narrowed := true }
def MachineCallsUptoSaid : Prop := machineCallsUptoRow.holds Tryd.pinned (OpenSpec.upto machineCallsSpec)

/-- 'backreachlaw05.MachineBlind', WHERE WHAT IT READS IS OF BULK AT MOST 1048576: true; the input reads as it did. -/
def machineBlindUptoRow : OpenClaim := { program := "ytfhnigfghfmolaadoor", sum := "71294a149eaa8523eb34071f9dd0c95e84bfd6f9c087598eed9b6185e8644e92", func := "backreach/backreachlaw05.MachineBlind", spec := "machineBlind", unfollowed := true, recurses := true, named := ["backreach/code.operations"], apart := false, laid := [("backreach/code.operations", laid_backreach_code_operations)], narrowed := true }
def MachineBlindUptoSaid : Prop := machineBlindUptoRow.holds Tryd.pinned (OpenSpec.upto machineBlindSpec)

end Rows
end Go.Proofs.YtfhnigfghfmolaaDoor
