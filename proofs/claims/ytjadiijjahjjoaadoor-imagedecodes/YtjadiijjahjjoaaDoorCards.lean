/-
  DERIVED. GIVEN WITH THE SEED: THE CARDS: each row of YtjadiijjahjjoaaDoorRows.lean that lists a variable, with what it lists TIED to the program's text (the seventh form; the later family's looks); each row that meets fmt, with fmt's text TOLD by the authors' own Lean function (tested against real Go, not proved from fmt's source: count such statements apart). THE CARD IS WHAT COUNTS. Prove the row's statement (the work); the ties are given (YtjadiijjahjjoaaDoorTie.lean); close each card by the builder's one call (the guide's Derived/Test/ToyasCard.lean, 'card_holds'). Laid BY PROGRAM, IN A SANDBOX (cutbox-door.mjs). By AI agents, Wed Nov 11 2026. No macro, syntax, notation, axiom, sorry.
-/
import Derived.Test.YtjadiijjahjjoaaDoorRows
import GoSem.ClaimSeven
namespace Go.Proofs.YtjadiijjahjjoaaDoor
namespace Rows

/-- THE TIED CARD OF 'backreachlaw03.ImageEncodes'. -/
def imageEncodesCard : Claim7 := { stood := { row := imageEncodesRow, standIns := [], harness := (true, "a7346a738ddc43a5f14aa05be6afb790db1477b7675c16d8954087edeb6880b8"), looks := true }, kinds := [], alts := [], laidByText := true, laidKinds := [.data], laidTests := true, laidLooks := .later }
def ImageEncodesCardSaid : Prop := Claim7.holds Tryd.pinned (.plain (OpenSpec.ofChange imageEncodesSpec)) imageEncodesCard

/-- THE TIED CARD OF 'backreachlaw03.ImageDecodes'. -/
def imageDecodesCard : Claim7 := { stood := { row := imageDecodesRow, standIns := [], harness := (true, "a7346a738ddc43a5f14aa05be6afb790db1477b7675c16d8954087edeb6880b8"), looks := true }, kinds := [], alts := [], laidByText := true, laidKinds := [.data], laidTests := true, laidLooks := .later }
def ImageDecodesCardSaid : Prop := Claim7.holds Tryd.pinned (.plain (OpenSpec.ofChange imageDecodesSpec)) imageDecodesCard

/-- THE TIED CARD OF 'backreachlaw03.ImageCuts'. -/
def imageCutsCard : Claim7 := { stood := { row := imageCutsRow, standIns := [], harness := (true, "a7346a738ddc43a5f14aa05be6afb790db1477b7675c16d8954087edeb6880b8"), looks := true }, kinds := [], alts := [], laidByText := true, laidKinds := [.data], laidTests := true, laidLooks := .later }
def ImageCutsCardSaid : Prop := Claim7.holds Tryd.pinned (.plain (OpenSpec.ofChange imageCutsSpec)) imageCutsCard

/-- THE TIED CARD OF 'backreachlaw03.ImageFaults'. -/
def imageFaultsCard : Claim7 := { stood := { row := imageFaultsRow, standIns := [], harness := (true, "a7346a738ddc43a5f14aa05be6afb790db1477b7675c16d8954087edeb6880b8"), looks := true }, kinds := [], alts := [], laidByText := true, laidKinds := [.data], laidTests := true, laidLooks := .later }
def ImageFaultsCardSaid : Prop := Claim7.holds Tryd.pinned (.plain (OpenSpec.ofChange imageFaultsSpec)) imageFaultsCard

/-- THE TIED CARD OF 'backreachlaw03.ImageFlows'. -/
def imageFlowsCard : Claim7 := { stood := { row := imageFlowsRow, standIns := [], harness := (true, "a7346a738ddc43a5f14aa05be6afb790db1477b7675c16d8954087edeb6880b8"), looks := true }, kinds := [], alts := [], laidByText := true, laidKinds := [.data], laidTests := true, laidLooks := .later }
def ImageFlowsCardSaid : Prop := Claim7.holds Tryd.pinned (.plain (OpenSpec.ofChange imageFlowsSpec)) imageFlowsCard

/-- THE TIED CARD OF 'backreachlaw03.ImageSame'. -/
def imageSameCard : Claim7 := { stood := { row := imageSameRow, standIns := [], harness := (true, "a7346a738ddc43a5f14aa05be6afb790db1477b7675c16d8954087edeb6880b8"), looks := true }, kinds := [], alts := [], laidByText := true, laidKinds := [.data], laidTests := true, laidLooks := .later }
def ImageSameCardSaid : Prop := Claim7.holds Tryd.pinned (.plain (OpenSpec.ofChange imageSameSpec)) imageSameCard

/-- THE SECOND FORM's CARD OF 'backreachlaw03.ImageEncodes'. -/
def imageEncodesUptoCard : Claim7 := { stood := { row := imageEncodesUptoRow, standIns := [], harness := (true, "a7346a738ddc43a5f14aa05be6afb790db1477b7675c16d8954087edeb6880b8"), looks := true }, kinds := [], alts := [], laidByText := true, laidKinds := [.data], laidTests := true, laidLooks := .later }
def ImageEncodesUptoCardSaid : Prop := Claim7.holds Tryd.pinned (.plain (OpenSpec.upto imageEncodesSpec)) imageEncodesUptoCard

/-- THE SECOND FORM's CARD OF 'backreachlaw03.ImageDecodes'. -/
def imageDecodesUptoCard : Claim7 := { stood := { row := imageDecodesUptoRow, standIns := [], harness := (true, "a7346a738ddc43a5f14aa05be6afb790db1477b7675c16d8954087edeb6880b8"), looks := true }, kinds := [], alts := [], laidByText := true, laidKinds := [.data], laidTests := true, laidLooks := .later }
def ImageDecodesUptoCardSaid : Prop := Claim7.holds Tryd.pinned (.plain (OpenSpec.upto imageDecodesSpec)) imageDecodesUptoCard

/-- THE SECOND FORM's CARD OF 'backreachlaw03.ImageCuts'. -/
def imageCutsUptoCard : Claim7 := { stood := { row := imageCutsUptoRow, standIns := [], harness := (true, "a7346a738ddc43a5f14aa05be6afb790db1477b7675c16d8954087edeb6880b8"), looks := true }, kinds := [], alts := [], laidByText := true, laidKinds := [.data], laidTests := true, laidLooks := .later }
def ImageCutsUptoCardSaid : Prop := Claim7.holds Tryd.pinned (.plain (OpenSpec.upto imageCutsSpec)) imageCutsUptoCard

/-- THE SECOND FORM's CARD OF 'backreachlaw03.ImageFaults'. -/
def imageFaultsUptoCard : Claim7 := { stood := { row := imageFaultsUptoRow, standIns := [], harness := (true, "a7346a738ddc43a5f14aa05be6afb790db1477b7675c16d8954087edeb6880b8"), looks := true }, kinds := [], alts := [], laidByText := true, laidKinds := [.data], laidTests := true, laidLooks := .later }
def ImageFaultsUptoCardSaid : Prop := Claim7.holds Tryd.pinned (.plain (OpenSpec.upto imageFaultsSpec)) imageFaultsUptoCard

/-- THE SECOND FORM's CARD OF 'backreachlaw03.ImageFlows'. -/
def imageFlowsUptoCard : Claim7 := { stood := { row := imageFlowsUptoRow, standIns := [], harness := (true, "a7346a738ddc43a5f14aa05be6afb790db1477b7675c16d8954087edeb6880b8"), looks := true }, kinds := [], alts := [], laidByText := true, laidKinds := [.data], laidTests := true, laidLooks := .later }
def ImageFlowsUptoCardSaid : Prop := Claim7.holds Tryd.pinned (.plain (OpenSpec.upto imageFlowsSpec)) imageFlowsUptoCard

/-- THE SECOND FORM's CARD OF 'backreachlaw03.ImageSame'. -/
def imageSameUptoCard : Claim7 := { stood := { row := imageSameUptoRow, standIns := [], harness := (true, "a7346a738ddc43a5f14aa05be6afb790db1477b7675c16d8954087edeb6880b8"), looks := true }, kinds := [], alts := [], laidByText := true, laidKinds := [.data], laidTests := true, laidLooks := .later }
def ImageSameUptoCardSaid : Prop := Claim7.holds Tryd.pinned (.plain (OpenSpec.upto imageSameSpec)) imageSameUptoCard
end Rows
end Go.Proofs.YtjadiijjahjjoaaDoor
