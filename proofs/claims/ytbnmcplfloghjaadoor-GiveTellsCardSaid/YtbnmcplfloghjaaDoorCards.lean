/-
  DERIVED. GIVEN WITH THE SEED: THE CARDS: each row of YtbnmcplfloghjaaDoorRows.lean that lists a variable, with what it lists TIED to the program's text (the seventh form; the later family's looks); each row that meets fmt, with fmt's text TOLD by the authors' own Lean function (tested against real Go, not proved from fmt's source: count such statements apart). THE CARD IS WHAT COUNTS. Prove the row's statement (the work); the ties are given (YtbnmcplfloghjaaDoorTie.lean); close each card by the builder's one call (the guide's Derived/Test/ToyasCard.lean, 'card_holds'). Laid BY PROGRAM, IN A SANDBOX (cutbox-door.mjs). By AI agents, Wed Nov 11 2026. No macro, syntax, notation, axiom, sorry.
-/
import Derived.Test.YtbnmcplfloghjaaDoorRows
import GoSem.ClaimSeven
namespace Go.Proofs.YtbnmcplfloghjaaDoor
namespace Rows

/-- THE TIED CARD OF 'deadboltlaw15.GiveTells'. -/
def giveTellsCard : Claim7 := { stood := { row := giveTellsRow, standIns := [], harness := (true, "4f4008a4ad40910910e3fd23f66d509efbf182877c0ea19ba0eee9e2e8ba588c"), looks := false }, kinds := [], alts := [], laidByText := true, laidKinds := [.data], laidTests := true, laidLooks := .later }
def GiveTellsCardSaid : Prop := Claim7.holds Tryd.pinned (.plain (OpenSpec.ofChange giveTellsSpec)) giveTellsCard

/-- THE TIED CARD OF 'deadboltlaw15.GiveOnce'. -/
def giveOnceCard : Claim7 := { stood := { row := giveOnceRow, standIns := [], harness := (true, "4f4008a4ad40910910e3fd23f66d509efbf182877c0ea19ba0eee9e2e8ba588c"), looks := false }, kinds := [], alts := [], laidByText := true, laidKinds := [.data], laidTests := true, laidLooks := .later }
def GiveOnceCardSaid : Prop := Claim7.holds Tryd.pinned (.plain (OpenSpec.ofChange giveOnceSpec)) giveOnceCard

/-- THE SECOND FORM's CARD OF 'deadboltlaw15.GiveTells'. -/
def giveTellsUptoCard : Claim7 := { stood := { row := giveTellsUptoRow, standIns := [], harness := (true, "4f4008a4ad40910910e3fd23f66d509efbf182877c0ea19ba0eee9e2e8ba588c"), looks := false }, kinds := [], alts := [], laidByText := true, laidKinds := [.data], laidTests := true, laidLooks := .later }
def GiveTellsUptoCardSaid : Prop := Claim7.holds Tryd.pinned (.plain (OpenSpec.upto giveTellsSpec)) giveTellsUptoCard

/-- THE SECOND FORM's CARD OF 'deadboltlaw15.GiveOnce'. -/
def giveOnceUptoCard : Claim7 := { stood := { row := giveOnceUptoRow, standIns := [], harness := (true, "4f4008a4ad40910910e3fd23f66d509efbf182877c0ea19ba0eee9e2e8ba588c"), looks := false }, kinds := [], alts := [], laidByText := true, laidKinds := [.data], laidTests := true, laidLooks := .later }
def GiveOnceUptoCardSaid : Prop := Claim7.holds Tryd.pinned (.plain (OpenSpec.upto giveOnceSpec)) giveOnceUptoCard
end Rows
end Go.Proofs.YtbnmcplfloghjaaDoor
