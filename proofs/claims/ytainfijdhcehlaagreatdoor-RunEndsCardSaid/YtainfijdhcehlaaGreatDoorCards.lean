/-
  DERIVED. GIVEN WITH THE SEED: THE CARDS: each row of YtainfijdhcehlaaGreatDoorRows.lean that lists a variable, with what it lists TIED to the program's text (the seventh form; the later family's looks); each row that meets fmt, with fmt's text TOLD by the authors' own Lean function (tested against real Go, not proved from fmt's source: count such statements apart). THE CARD IS WHAT COUNTS. Prove the row's statement (the work); the ties are given (YtainfijdhcehlaaGreatDoorTie.lean); close each card by the builder's one call (the guide's Derived/Test/ToyasCard.lean, 'card_holds'). Laid BY PROGRAM, IN A SANDBOX (cutbox-door.mjs). By AI agents, Wed Nov 11 2026. No macro, syntax, notation, axiom, sorry.
-/
import Derived.Test.YtainfijdhcehlaaGreatDoorRows
import GoSem.ClaimSeven
namespace Go.Proofs.YtainfijdhcehlaaGreatDoor
namespace Rows

/-- THE TIED CARD OF 'deadboltlaw16.MachineHeld'. -/
def machineHeldCard : Claim7 := { stood := { row := machineHeldRow, standIns := [], harness := (true, "66bf5ad460a7bb4e7b783659d9c1a5d7d1482870bc0731380136ac2060ff63d7"), looks := true }, kinds := [], alts := [], laidByText := true, laidKinds := [.data], laidTests := true, laidLooks := .later }
def MachineHeldCardSaid : Prop := Claim7.holds Tryz.pinned (.plain (OpenSpec.ofChange machineHeldSpec)) machineHeldCard

/-- THE TIED CARD OF 'deadboltlaw16.MachineWakes'. -/
def machineWakesCard : Claim7 := { stood := { row := machineWakesRow, standIns := [], harness := (true, "66bf5ad460a7bb4e7b783659d9c1a5d7d1482870bc0731380136ac2060ff63d7"), looks := true }, kinds := [], alts := [], laidByText := true, laidKinds := [.data], laidTests := true, laidLooks := .later }
def MachineWakesCardSaid : Prop := Claim7.holds Tryz.pinned (.plain (OpenSpec.ofChange machineWakesSpec)) machineWakesCard

/-- THE TIED CARD OF 'deadboltlaw16.MachineHands'. -/
def machineHandsCard : Claim7 := { stood := { row := machineHandsRow, standIns := [], harness := (true, "66bf5ad460a7bb4e7b783659d9c1a5d7d1482870bc0731380136ac2060ff63d7"), looks := true }, kinds := [], alts := [], laidByText := true, laidKinds := [.data], laidTests := true, laidLooks := .later }
def MachineHandsCardSaid : Prop := Claim7.holds Tryz.pinned (.plain (OpenSpec.ofChange machineHandsSpec)) machineHandsCard

/-- THE TIED CARD OF 'deadboltlaw16.MachineTouch'. -/
def machineTouchCard : Claim7 := { stood := { row := machineTouchRow, standIns := [], harness := (true, "66bf5ad460a7bb4e7b783659d9c1a5d7d1482870bc0731380136ac2060ff63d7"), looks := true }, kinds := [], alts := [], laidByText := true, laidKinds := [.data], laidTests := true, laidLooks := .later }
def MachineTouchCardSaid : Prop := Claim7.holds Tryz.pinned (.plain (OpenSpec.ofChange machineTouchSpec)) machineTouchCard

/-- THE TIED CARD OF 'deadboltlaw16.MachineAlone'. -/
def machineAloneCard : Claim7 := { stood := { row := machineAloneRow, standIns := [], harness := (true, "66bf5ad460a7bb4e7b783659d9c1a5d7d1482870bc0731380136ac2060ff63d7"), looks := true }, kinds := [], alts := [], laidByText := true, laidKinds := [.data], laidTests := true, laidLooks := .later }
def MachineAloneCardSaid : Prop := Claim7.holds Tryz.pinned (.plain (OpenSpec.ofChange machineAloneSpec)) machineAloneCard

/-- THE TIED CARD OF 'deadboltlaw16.MachineStill'. -/
def machineStillCard : Claim7 := { stood := { row := machineStillRow, standIns := [], harness := (true, "66bf5ad460a7bb4e7b783659d9c1a5d7d1482870bc0731380136ac2060ff63d7"), looks := true }, kinds := [], alts := [], laidByText := true, laidKinds := [.data], laidTests := true, laidLooks := .later }
def MachineStillCardSaid : Prop := Claim7.holds Tryz.pinned (.plain (OpenSpec.ofChange machineStillSpec)) machineStillCard

/-- THE TIED CARD OF 'deadboltlaw17.RunParts'. -/
def runPartsCard : Claim7 := { stood := { row := runPartsRow, standIns := [], harness := (true, "66bf5ad460a7bb4e7b783659d9c1a5d7d1482870bc0731380136ac2060ff63d7"), looks := true }, kinds := [], alts := [], laidByText := true, laidKinds := [.data], laidTests := true, laidLooks := .later }
def RunPartsCardSaid : Prop := Claim7.holds Tryz.pinned (.plain (OpenSpec.ofChange runPartsSpec)) runPartsCard

/-- THE TIED CARD OF 'deadboltlaw17.RunEnds'. -/
def runEndsCard : Claim7 := { stood := { row := runEndsRow, standIns := [], harness := (true, "66bf5ad460a7bb4e7b783659d9c1a5d7d1482870bc0731380136ac2060ff63d7"), looks := true }, kinds := [], alts := [], laidByText := true, laidKinds := [.data], laidTests := true, laidLooks := .later }
def RunEndsCardSaid : Prop := Claim7.holds Tryz.pinned (.plain (OpenSpec.ofChange runEndsSpec)) runEndsCard

/-- THE TIED CARD OF 'deadboltlaw17.RunStill'. -/
def runStillCard : Claim7 := { stood := { row := runStillRow, standIns := [], harness := (true, "66bf5ad460a7bb4e7b783659d9c1a5d7d1482870bc0731380136ac2060ff63d7"), looks := true }, kinds := [], alts := [], laidByText := true, laidKinds := [.data], laidTests := true, laidLooks := .later }
def RunStillCardSaid : Prop := Claim7.holds Tryz.pinned (.plain (OpenSpec.ofChange runStillSpec)) runStillCard

/-- THE SECOND FORM's CARD OF 'deadboltlaw16.MachineHeld'. -/
def machineHeldUptoCard : Claim7 := { stood := { row := machineHeldUptoRow, standIns := [], harness := (true, "66bf5ad460a7bb4e7b783659d9c1a5d7d1482870bc0731380136ac2060ff63d7"), looks := true }, kinds := [], alts := [], laidByText := true, laidKinds := [.data], laidTests := true, laidLooks := .later }
def MachineHeldUptoCardSaid : Prop := Claim7.holds Tryz.pinned (.plain (OpenSpec.upto machineHeldSpec)) machineHeldUptoCard

/-- THE SECOND FORM's CARD OF 'deadboltlaw16.MachineWakes'. -/
def machineWakesUptoCard : Claim7 := { stood := { row := machineWakesUptoRow, standIns := [], harness := (true, "66bf5ad460a7bb4e7b783659d9c1a5d7d1482870bc0731380136ac2060ff63d7"), looks := true }, kinds := [], alts := [], laidByText := true, laidKinds := [.data], laidTests := true, laidLooks := .later }
def MachineWakesUptoCardSaid : Prop := Claim7.holds Tryz.pinned (.plain (OpenSpec.upto machineWakesSpec)) machineWakesUptoCard

/-- THE SECOND FORM's CARD OF 'deadboltlaw16.MachineHands'. -/
def machineHandsUptoCard : Claim7 := { stood := { row := machineHandsUptoRow, standIns := [], harness := (true, "66bf5ad460a7bb4e7b783659d9c1a5d7d1482870bc0731380136ac2060ff63d7"), looks := true }, kinds := [], alts := [], laidByText := true, laidKinds := [.data], laidTests := true, laidLooks := .later }
def MachineHandsUptoCardSaid : Prop := Claim7.holds Tryz.pinned (.plain (OpenSpec.upto machineHandsSpec)) machineHandsUptoCard

/-- THE SECOND FORM's CARD OF 'deadboltlaw16.MachineTouch'. -/
def machineTouchUptoCard : Claim7 := { stood := { row := machineTouchUptoRow, standIns := [], harness := (true, "66bf5ad460a7bb4e7b783659d9c1a5d7d1482870bc0731380136ac2060ff63d7"), looks := true }, kinds := [], alts := [], laidByText := true, laidKinds := [.data], laidTests := true, laidLooks := .later }
def MachineTouchUptoCardSaid : Prop := Claim7.holds Tryz.pinned (.plain (OpenSpec.upto machineTouchSpec)) machineTouchUptoCard

/-- THE SECOND FORM's CARD OF 'deadboltlaw16.MachineAlone'. -/
def machineAloneUptoCard : Claim7 := { stood := { row := machineAloneUptoRow, standIns := [], harness := (true, "66bf5ad460a7bb4e7b783659d9c1a5d7d1482870bc0731380136ac2060ff63d7"), looks := true }, kinds := [], alts := [], laidByText := true, laidKinds := [.data], laidTests := true, laidLooks := .later }
def MachineAloneUptoCardSaid : Prop := Claim7.holds Tryz.pinned (.plain (OpenSpec.upto machineAloneSpec)) machineAloneUptoCard

/-- THE SECOND FORM's CARD OF 'deadboltlaw16.MachineStill'. -/
def machineStillUptoCard : Claim7 := { stood := { row := machineStillUptoRow, standIns := [], harness := (true, "66bf5ad460a7bb4e7b783659d9c1a5d7d1482870bc0731380136ac2060ff63d7"), looks := true }, kinds := [], alts := [], laidByText := true, laidKinds := [.data], laidTests := true, laidLooks := .later }
def MachineStillUptoCardSaid : Prop := Claim7.holds Tryz.pinned (.plain (OpenSpec.upto machineStillSpec)) machineStillUptoCard

/-- THE SECOND FORM's CARD OF 'deadboltlaw17.RunParts'. -/
def runPartsUptoCard : Claim7 := { stood := { row := runPartsUptoRow, standIns := [], harness := (true, "66bf5ad460a7bb4e7b783659d9c1a5d7d1482870bc0731380136ac2060ff63d7"), looks := true }, kinds := [], alts := [], laidByText := true, laidKinds := [.data], laidTests := true, laidLooks := .later }
def RunPartsUptoCardSaid : Prop := Claim7.holds Tryz.pinned (.plain (OpenSpec.upto runPartsSpec)) runPartsUptoCard

/-- THE SECOND FORM's CARD OF 'deadboltlaw17.RunEnds'. -/
def runEndsUptoCard : Claim7 := { stood := { row := runEndsUptoRow, standIns := [], harness := (true, "66bf5ad460a7bb4e7b783659d9c1a5d7d1482870bc0731380136ac2060ff63d7"), looks := true }, kinds := [], alts := [], laidByText := true, laidKinds := [.data], laidTests := true, laidLooks := .later }
def RunEndsUptoCardSaid : Prop := Claim7.holds Tryz.pinned (.plain (OpenSpec.upto runEndsSpec)) runEndsUptoCard

/-- THE SECOND FORM's CARD OF 'deadboltlaw17.RunStill'. -/
def runStillUptoCard : Claim7 := { stood := { row := runStillUptoRow, standIns := [], harness := (true, "66bf5ad460a7bb4e7b783659d9c1a5d7d1482870bc0731380136ac2060ff63d7"), looks := true }, kinds := [], alts := [], laidByText := true, laidKinds := [.data], laidTests := true, laidLooks := .later }
def RunStillUptoCardSaid : Prop := Claim7.holds Tryz.pinned (.plain (OpenSpec.upto runStillSpec)) runStillUptoCard
end Rows
end Go.Proofs.YtainfijdhcehlaaGreatDoor
