/-
  DERIVED. GIVEN WITH THE SEED: THE CARDS: each row of YtocojdiapaeajaaDoorRows.lean that lists a variable, with what it lists TIED to the program's text (the seventh form; the later family's looks); each row that meets fmt, with fmt's text TOLD by the authors' own Lean function (tested against real Go, not proved from fmt's source: count such statements apart). THE CARD IS WHAT COUNTS. Prove the row's statement (the work); the ties are given (YtocojdiapaeajaaDoorTie.lean); close each card by the builder's one call (the guide's Derived/Test/ToyasCard.lean, 'card_holds'). Laid BY PROGRAM, IN A SANDBOX (cutbox-door.mjs). By AI agents, Wed Nov 11 2026. No macro, syntax, notation, axiom, sorry.
-/
import Derived.Test.YtocojdiapaeajaaDoorRows
import GoSem.ClaimSeven
namespace Go.Proofs.YtocojdiapaeajaaDoor
namespace Rows

/-- THE TIED CARD OF 'deadboltlaw12.ProgParses'. -/
def progParsesCard : Claim7 := { stood := { row := progParsesRow, standIns := [], harness := (true, "bf27c05b2eddeb3a002ff15cb9dbebb3218eccd7e416514224519a4d0e76d4d6"), looks := true }, kinds := [], alts := [], laidByText := true, laidKinds := [.data, .data, .data, .data, .sentinel, .sentinel, .data, .pinned], laidTests := true, laidLooks := .later }
def ProgParsesCardSaid : Prop := Claim7.holds Tryd.pinned (.plain (OpenSpec.ofChange progParsesSpec)) progParsesCard

/-- THE TIED CARD OF 'deadboltlaw12.ProgPrints'. -/
def progPrintsCard : Claim7 := { stood := { row := progPrintsRow, standIns := [], harness := (true, "bf27c05b2eddeb3a002ff15cb9dbebb3218eccd7e416514224519a4d0e76d4d6"), looks := true }, kinds := [], alts := [], laidByText := true, laidKinds := [.data, .data, .data, .data, .sentinel, .sentinel, .data, .pinned], laidTests := true, laidLooks := .later }
def ProgPrintsCardSaid : Prop := Claim7.holds Tryd.pinned (.plain (OpenSpec.ofChange progPrintsSpec)) progPrintsCard

/-- THE TIED CARD OF 'deadboltlaw12.ProgBack'. -/
def progBackCard : Claim7 := { stood := { row := progBackRow, standIns := [], harness := (true, "bf27c05b2eddeb3a002ff15cb9dbebb3218eccd7e416514224519a4d0e76d4d6"), looks := true }, kinds := [], alts := [], laidByText := true, laidKinds := [.data, .data, .data, .data, .sentinel, .sentinel, .data, .pinned], laidTests := true, laidLooks := .later }
def ProgBackCardSaid : Prop := Claim7.holds Tryd.pinned (.plain (OpenSpec.ofChange progBackSpec)) progBackCard

/-- THE TIED CARD OF 'deadboltlaw12.ProgTidy'. -/
def progTidyCard : Claim7 := { stood := { row := progTidyRow, standIns := [], harness := (true, "bf27c05b2eddeb3a002ff15cb9dbebb3218eccd7e416514224519a4d0e76d4d6"), looks := true }, kinds := [], alts := [], laidByText := true, laidKinds := [.data, .data, .data, .data, .sentinel, .sentinel, .data, .pinned], laidTests := true, laidLooks := .later }
def ProgTidyCardSaid : Prop := Claim7.holds Tryd.pinned (.plain (OpenSpec.ofChange progTidySpec)) progTidyCard

/-- THE TIED CARD OF 'deadboltlaw12.ProgLines'. -/
def progLinesCard : Claim7 := { stood := { row := progLinesRow, standIns := [], harness := (true, "bf27c05b2eddeb3a002ff15cb9dbebb3218eccd7e416514224519a4d0e76d4d6"), looks := true }, kinds := [], alts := [], laidByText := true, laidKinds := [.data, .data, .data, .data, .sentinel, .sentinel, .data, .pinned], laidTests := true, laidLooks := .later }
def ProgLinesCardSaid : Prop := Claim7.holds Tryd.pinned (.plain (OpenSpec.ofChange progLinesSpec)) progLinesCard

/-- THE SECOND FORM's CARD OF 'deadboltlaw12.ProgParses'. -/
def progParsesUptoCard : Claim7 := { stood := { row := progParsesUptoRow, standIns := [], harness := (true, "bf27c05b2eddeb3a002ff15cb9dbebb3218eccd7e416514224519a4d0e76d4d6"), looks := true }, kinds := [], alts := [], laidByText := true, laidKinds := [.data, .data, .data, .data, .sentinel, .sentinel, .data, .pinned], laidTests := true, laidLooks := .later }
def ProgParsesUptoCardSaid : Prop := Claim7.holds Tryd.pinned (.plain (OpenSpec.upto progParsesSpec)) progParsesUptoCard

/-- THE SECOND FORM's CARD OF 'deadboltlaw12.ProgPrints'. -/
def progPrintsUptoCard : Claim7 := { stood := { row := progPrintsUptoRow, standIns := [], harness := (true, "bf27c05b2eddeb3a002ff15cb9dbebb3218eccd7e416514224519a4d0e76d4d6"), looks := true }, kinds := [], alts := [], laidByText := true, laidKinds := [.data, .data, .data, .data, .sentinel, .sentinel, .data, .pinned], laidTests := true, laidLooks := .later }
def ProgPrintsUptoCardSaid : Prop := Claim7.holds Tryd.pinned (.plain (OpenSpec.upto progPrintsSpec)) progPrintsUptoCard

/-- THE SECOND FORM's CARD OF 'deadboltlaw12.ProgBack'. -/
def progBackUptoCard : Claim7 := { stood := { row := progBackUptoRow, standIns := [], harness := (true, "bf27c05b2eddeb3a002ff15cb9dbebb3218eccd7e416514224519a4d0e76d4d6"), looks := true }, kinds := [], alts := [], laidByText := true, laidKinds := [.data, .data, .data, .data, .sentinel, .sentinel, .data, .pinned], laidTests := true, laidLooks := .later }
def ProgBackUptoCardSaid : Prop := Claim7.holds Tryd.pinned (.plain (OpenSpec.upto progBackSpec)) progBackUptoCard

/-- THE SECOND FORM's CARD OF 'deadboltlaw12.ProgTidy'. -/
def progTidyUptoCard : Claim7 := { stood := { row := progTidyUptoRow, standIns := [], harness := (true, "bf27c05b2eddeb3a002ff15cb9dbebb3218eccd7e416514224519a4d0e76d4d6"), looks := true }, kinds := [], alts := [], laidByText := true, laidKinds := [.data, .data, .data, .data, .sentinel, .sentinel, .data, .pinned], laidTests := true, laidLooks := .later }
def ProgTidyUptoCardSaid : Prop := Claim7.holds Tryd.pinned (.plain (OpenSpec.upto progTidySpec)) progTidyUptoCard

/-- THE SECOND FORM's CARD OF 'deadboltlaw12.ProgLines'. -/
def progLinesUptoCard : Claim7 := { stood := { row := progLinesUptoRow, standIns := [], harness := (true, "bf27c05b2eddeb3a002ff15cb9dbebb3218eccd7e416514224519a4d0e76d4d6"), looks := true }, kinds := [], alts := [], laidByText := true, laidKinds := [.data, .data, .data, .data, .sentinel, .sentinel, .data, .pinned], laidTests := true, laidLooks := .later }
def ProgLinesUptoCardSaid : Prop := Claim7.holds Tryd.pinned (.plain (OpenSpec.upto progLinesSpec)) progLinesUptoCard
end Rows
end Go.Proofs.YtocojdiapaeajaaDoor
