/-
  DERIVED. GIVEN WITH THE SEED: THE CARDS: each row of YtfhnigfghfmolaaDoorRows.lean that lists a variable, with what it lists TIED to the program's text (the seventh form; the later family's looks); each row that meets fmt, with fmt's text TOLD by the authors' own Lean function (tested against real Go, not proved from fmt's source: count such statements apart). THE CARD IS WHAT COUNTS. Prove the row's statement (the work); the ties are given (YtfhnigfghfmolaaDoorTie.lean); close each card by the builder's one call (the guide's Derived/Test/ToyasCard.lean, 'card_holds'). Laid BY PROGRAM, IN A SANDBOX (cutbox-door.mjs). By AI agents, Wed Nov 11 2026. No macro, syntax, notation, axiom, sorry.
-/
import Derived.Test.YtfhnigfghfmolaaDoorRows
import GoSem.ClaimSeven
namespace Go.Proofs.YtfhnigfghfmolaaDoor
namespace Rows

/-- THE TIED CARD OF 'backreachlaw05.MachineRuns'. -/
def machineRunsCard : Claim7 := { stood := { row := machineRunsRow, standIns := [], harness := (true, "ebe26d894bffa927a9e8db15f2f05596a9a443b17dad908626014ac3b558b221"), looks := false }, kinds := [], alts := [], laidByText := true, laidKinds := [.data], laidTests := true, laidLooks := .later }
def MachineRunsCardSaid : Prop := Claim7.holds Tryd.pinned (.plain (OpenSpec.ofChange machineRunsSpec)) machineRunsCard

/-- THE TIED CARD OF 'backreachlaw05.MachineSteps'. -/
def machineStepsCard : Claim7 := { stood := { row := machineStepsRow, standIns := [], harness := (true, "ebe26d894bffa927a9e8db15f2f05596a9a443b17dad908626014ac3b558b221"), looks := false }, kinds := [], alts := [], laidByText := true, laidKinds := [.data], laidTests := true, laidLooks := .later }
def MachineStepsCardSaid : Prop := Claim7.holds Tryd.pinned (.plain (OpenSpec.ofChange machineStepsSpec)) machineStepsCard

/-- THE TIED CARD OF 'backreachlaw05.MachineGoes'. -/
def machineGoesCard : Claim7 := { stood := { row := machineGoesRow, standIns := [], harness := (true, "ebe26d894bffa927a9e8db15f2f05596a9a443b17dad908626014ac3b558b221"), looks := false }, kinds := [], alts := [], laidByText := true, laidKinds := [.data], laidTests := true, laidLooks := .later }
def MachineGoesCardSaid : Prop := Claim7.holds Tryd.pinned (.plain (OpenSpec.ofChange machineGoesSpec)) machineGoesCard

/-- THE TIED CARD OF 'backreachlaw05.MachineReach'. -/
def machineReachCard : Claim7 := { stood := { row := machineReachRow, standIns := [], harness := (true, "ebe26d894bffa927a9e8db15f2f05596a9a443b17dad908626014ac3b558b221"), looks := false }, kinds := [], alts := [], laidByText := true, laidKinds := [.data], laidTests := true, laidLooks := .later }
def MachineReachCardSaid : Prop := Claim7.holds Tryd.pinned (.plain (OpenSpec.ofChange machineReachSpec)) machineReachCard

/-- THE TIED CARD OF 'backreachlaw05.MachineSaves'. -/
def machineSavesCard : Claim7 := { stood := { row := machineSavesRow, standIns := [], harness := (true, "ebe26d894bffa927a9e8db15f2f05596a9a443b17dad908626014ac3b558b221"), looks := false }, kinds := [], alts := [], laidByText := true, laidKinds := [.data], laidTests := true, laidLooks := .later }
def MachineSavesCardSaid : Prop := Claim7.holds Tryd.pinned (.plain (OpenSpec.ofChange machineSavesSpec)) machineSavesCard

/-- THE TIED CARD OF 'backreachlaw05.MachineCalls'. -/
def machineCallsCard : Claim7 := { stood := { row := machineCallsRow, standIns := [], harness := (true, "ebe26d894bffa927a9e8db15f2f05596a9a443b17dad908626014ac3b558b221"), looks := false }, kinds := [], alts := [], laidByText := true, laidKinds := [.data], laidTests := true, laidLooks := .later }
def MachineCallsCardSaid : Prop := Claim7.holds Tryd.pinned (.plain (OpenSpec.ofChange machineCallsSpec)) machineCallsCard

/-- THE TIED CARD OF 'backreachlaw05.MachineBlind'. -/
def machineBlindCard : Claim7 := { stood := { row := machineBlindRow, standIns := [], harness := (true, "ebe26d894bffa927a9e8db15f2f05596a9a443b17dad908626014ac3b558b221"), looks := false }, kinds := [], alts := [], laidByText := true, laidKinds := [.data], laidTests := true, laidLooks := .later }
def MachineBlindCardSaid : Prop := Claim7.holds Tryd.pinned (.plain (OpenSpec.ofChange machineBlindSpec)) machineBlindCard

/-- THE SECOND FORM's CARD OF 'backreachlaw05.MachineRuns'. -/
def machineRunsUptoCard : Claim7 := { stood := { row := machineRunsUptoRow, standIns := [], harness := (true, "ebe26d894bffa927a9e8db15f2f05596a9a443b17dad908626014ac3b558b221"), looks := false }, kinds := [], alts := [], laidByText := true, laidKinds := [.data], laidTests := true, laidLooks := .later }
def MachineRunsUptoCardSaid : Prop := Claim7.holds Tryd.pinned (.plain (OpenSpec.upto machineRunsSpec)) machineRunsUptoCard

/-- THE SECOND FORM's CARD OF 'backreachlaw05.MachineSteps'. -/
def machineStepsUptoCard : Claim7 := { stood := { row := machineStepsUptoRow, standIns := [], harness := (true, "ebe26d894bffa927a9e8db15f2f05596a9a443b17dad908626014ac3b558b221"), looks := false }, kinds := [], alts := [], laidByText := true, laidKinds := [.data], laidTests := true, laidLooks := .later }
def MachineStepsUptoCardSaid : Prop := Claim7.holds Tryd.pinned (.plain (OpenSpec.upto machineStepsSpec)) machineStepsUptoCard

/-- THE SECOND FORM's CARD OF 'backreachlaw05.MachineGoes'. -/
def machineGoesUptoCard : Claim7 := { stood := { row := machineGoesUptoRow, standIns := [], harness := (true, "ebe26d894bffa927a9e8db15f2f05596a9a443b17dad908626014ac3b558b221"), looks := false }, kinds := [], alts := [], laidByText := true, laidKinds := [.data], laidTests := true, laidLooks := .later }
def MachineGoesUptoCardSaid : Prop := Claim7.holds Tryd.pinned (.plain (OpenSpec.upto machineGoesSpec)) machineGoesUptoCard

/-- THE SECOND FORM's CARD OF 'backreachlaw05.MachineReach'. -/
def machineReachUptoCard : Claim7 := { stood := { row := machineReachUptoRow, standIns := [], harness := (true, "ebe26d894bffa927a9e8db15f2f05596a9a443b17dad908626014ac3b558b221"), looks := false }, kinds := [], alts := [], laidByText := true, laidKinds := [.data], laidTests := true, laidLooks := .later }
def MachineReachUptoCardSaid : Prop := Claim7.holds Tryd.pinned (.plain (OpenSpec.upto machineReachSpec)) machineReachUptoCard

/-- THE SECOND FORM's CARD OF 'backreachlaw05.MachineSaves'. -/
def machineSavesUptoCard : Claim7 := { stood := { row := machineSavesUptoRow, standIns := [], harness := (true, "ebe26d894bffa927a9e8db15f2f05596a9a443b17dad908626014ac3b558b221"), looks := false }, kinds := [], alts := [], laidByText := true, laidKinds := [.data], laidTests := true, laidLooks := .later }
def MachineSavesUptoCardSaid : Prop := Claim7.holds Tryd.pinned (.plain (OpenSpec.upto machineSavesSpec)) machineSavesUptoCard

/-- THE SECOND FORM's CARD OF 'backreachlaw05.MachineCalls'. -/
def machineCallsUptoCard : Claim7 := { stood := { row := machineCallsUptoRow, standIns := [], harness := (true, "ebe26d894bffa927a9e8db15f2f05596a9a443b17dad908626014ac3b558b221"), looks := false }, kinds := [], alts := [], laidByText := true, laidKinds := [.data], laidTests := true, laidLooks := .later }
def MachineCallsUptoCardSaid : Prop := Claim7.holds Tryd.pinned (.plain (OpenSpec.upto machineCallsSpec)) machineCallsUptoCard

/-- THE SECOND FORM's CARD OF 'backreachlaw05.MachineBlind'. -/
def machineBlindUptoCard : Claim7 := { stood := { row := machineBlindUptoRow, standIns := [], harness := (true, "ebe26d894bffa927a9e8db15f2f05596a9a443b17dad908626014ac3b558b221"), looks := false }, kinds := [], alts := [], laidByText := true, laidKinds := [.data], laidTests := true, laidLooks := .later }
def MachineBlindUptoCardSaid : Prop := Claim7.holds Tryd.pinned (.plain (OpenSpec.upto machineBlindSpec)) machineBlindUptoCard
end Rows
end Go.Proofs.YtfhnigfghfmolaaDoor
