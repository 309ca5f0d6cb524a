/-
  No cell of these rows narrows 'for every input' (looked for: loops, veiled, ifaces, maps, wideKeys, modest, calm, conditions, laid).
  DERIVED. THE GIVEN ROWS OF THIS SEAT. 3 by the template 'for every input the law returns true; each argument reads behind the call as it read before'; 0 by the template 'total and deterministic' (their statements: YtdioecicakpfdaaTotals.lean).
  GIVEN WITH THE SEED: the statements are not yours to turn. If you find one false, say at which input.
  Laid BY PROGRAM, IN A SANDBOX (cutbox-rows.mjs): the forced cells as the released guide's own fill.sh prints them over the translation 62a0beb6705a672f… (all of the seat's roots in one cut). By AI agents, Wed Nov 11 2026. No macro, syntax, notation, axiom, sorry.
-/
import Derived.Test.YtdioecicakpfdaaChecked
import GoSem.Claim
import GoSem.ClaimJoined
import GoSem.ClaimMapViews
import Derived.JoinedTies
import Derived.KernelRfl
namespace Go.Proofs.Ytdioecicakpfdaa
/- THE CELL 'sum', in the pinned program and in every row, IS THE sha256 OF THE DUMP (.gsa) THAT YtdioecicakpfdaaProg.lean LOADS. Nothing in Lean hashes anything: it is a label: what it is worth is what the hold of that sum in a sandbox is worth. -/
noncomputable def Try.pinned : Pinned := { name := "ytdioecicakpfdaa", sum := "62a0beb6705a672fc3fb4f12ecba625edc04e7c70696607d53d8de658132a817", checked := Try.checked }
namespace Rows
def none {H : Type} : Left H := { results := [], args := [] }

/-- 'deadboltlaw09.RootTells': WHATEVER THE INPUT: true; the input reads as it did. -/
def rootTellsSpec : ChangeSpec := { name := "rootTells", fn := fun _ => fun
  | [d1, d2, d3, d4] => { results := [.lit (.bool true)], args := [d1, d2, d3, d4] }
  | _ => none }
def rootTellsRow : OpenClaim := { program := "ytdioecicakpfdaa", sum := "62a0beb6705a672fc3fb4f12ecba625edc04e7c70696607d53d8de658132a817", func := "deadbolt/deadboltlaw09.RootTells", spec := "rootTells", unfollowed := true, recurses := true, apart := false }
def RootTellsSaid : Prop := rootTellsRow.holds Try.pinned (OpenSpec.ofChange rootTellsSpec)

/-- ITS FALSE NEIGHBOUR: 'it returns false'. Refute it at one input. -/
def rootTellsWrong : ChangeSpec := { name := "rootTells", fn := fun _ => fun
  | [d1, d2, d3, d4] => { results := [.lit (.bool false)], args := [d1, d2, d3, d4] }
  | _ => none }
def RootTellsWrongFalsely : Prop := rootTellsRow.holds Try.pinned (OpenSpec.ofChange rootTellsWrong)

/-- 'deadboltlaw09.RootKeeps': WHATEVER THE INPUT: true; the input reads as it did. -/
def rootKeepsSpec : ChangeSpec := { name := "rootKeeps", fn := fun _ => fun
  | [d1, d2, d3, d4] => { results := [.lit (.bool true)], args := [d1, d2, d3, d4] }
  | _ => none }
def rootKeepsRow : OpenClaim := { program := "ytdioecicakpfdaa", sum := "62a0beb6705a672fc3fb4f12ecba625edc04e7c70696607d53d8de658132a817", func := "deadbolt/deadboltlaw09.RootKeeps", spec := "rootKeeps", unfollowed := true, recurses := true, apart := false }
def RootKeepsSaid : Prop := rootKeepsRow.holds Try.pinned (OpenSpec.ofChange rootKeepsSpec)

/-- ITS FALSE NEIGHBOUR: 'it returns false'. Refute it at one input. -/
def rootKeepsWrong : ChangeSpec := { name := "rootKeeps", fn := fun _ => fun
  | [d1, d2, d3, d4] => { results := [.lit (.bool false)], args := [d1, d2, d3, d4] }
  | _ => none }
def RootKeepsWrongFalsely : Prop := rootKeepsRow.holds Try.pinned (OpenSpec.ofChange rootKeepsWrong)

/-- 'deadboltlaw09.RootSpots': WHATEVER THE INPUT: true; the input reads as it did. -/
def rootSpotsSpec : ChangeSpec := { name := "rootSpots", fn := fun _ => fun
  | [d] => { results := [.lit (.bool true)], args := [d] }
  | _ => none }
def rootSpotsRow : OpenClaim := { program := "ytdioecicakpfdaa", sum := "62a0beb6705a672fc3fb4f12ecba625edc04e7c70696607d53d8de658132a817", func := "deadbolt/deadboltlaw09.RootSpots", spec := "rootSpots", unfollowed := true, recurses := true, apart := false }
def RootSpotsSaid : Prop := rootSpotsRow.holds Try.pinned (OpenSpec.ofChange rootSpotsSpec)

/-- ITS FALSE NEIGHBOUR: 'it returns false'. Refute it at one input. -/
def rootSpotsWrong : ChangeSpec := { name := "rootSpots", fn := fun _ => fun
  | [d] => { results := [.lit (.bool false)], args := [d] }
  | _ => none }
def RootSpotsWrongFalsely : Prop := rootSpotsRow.holds Try.pinned (OpenSpec.ofChange rootSpotsWrong)

/- THE SECOND FORM. 'bulk': how many values and letters a reading holds, each counted each time it is reached (what is shared counts as often as it is met; a slice's spare places count too). A statement '..UptoSaid' is the law's where the arguments, and the package variables that the reading takes, are together of bulk at most 1048576: NARROWER than '..Said'. Prove '..Said' where nothing that the law and all that it calls make is longer than what came in: it says more and counts as full. Else prove '..UptoSaid'. A law counts once. -/
mutual
def uptoBulk {H : Type} : DataW H → Nat
  | .lit (.string bytes) => bytes.length + 1
  | .lit _ => 1
  | .nil => 1
  | .ptr d => uptoBulk d + 1
  | .slice elems spare => uptoBulkAll elems + uptoBulkAll spare + 1
  | .agg parts => uptoBulkAll parts + 1
  | .iface _ d => uptoBulk d + 1
  | .map entries => uptoBulkEntries entries + 1
  | .held _ => 1
def uptoBulkAll {H : Type} : List (DataW H) → Nat
  | [] => 0
  | d :: r => uptoBulk d + uptoBulkAll r
def uptoBulkEntries {H : Type} : List (Lit × DataW H) → Nat
  | [] => 0
  | x :: r => uptoBulkEntry x + uptoBulkEntries r
def uptoBulkEntry {H : Type} : Lit × DataW H → Nat
  | (.string bytes, d) => bytes.length + uptoBulk d + 1
  | (_, d) => uptoBulk d + 1
 end
def uptoSmall : (H : Type) → List (DataW H) → Bool := fun _ ds => decide (uptoBulkAll ds ≤ 1048576)
def OpenSpec.upto (s : _root_.Go.ChangeSpec) : _root_.Go.OpenSpec := { _root_.Go.OpenSpec.ofChange s with cond := some uptoSmall }

/-- 'deadboltlaw09.RootTells', WHERE WHAT IT READS IS OF BULK AT MOST 1048576: true; the input reads as it did. -/
def rootTellsUptoRow : OpenClaim := { program := "ytdioecicakpfdaa", sum := "62a0beb6705a672fc3fb4f12ecba625edc04e7c70696607d53d8de658132a817", func := "deadbolt/deadboltlaw09.RootTells", spec := "rootTells", unfollowed := true, recurses := true, apart := false, narrowed := true }
def RootTellsUptoSaid : Prop := rootTellsUptoRow.holds Try.pinned (OpenSpec.upto rootTellsSpec)

/-- 'deadboltlaw09.RootKeeps', WHERE WHAT IT READS IS OF BULK AT MOST 1048576: true; the input reads as it did. -/
def rootKeepsUptoRow : OpenClaim := { program := "ytdioecicakpfdaa", sum := "62a0beb6705a672fc3fb4f12ecba625edc04e7c70696607d53d8de658132a817", func := "deadbolt/deadboltlaw09.RootKeeps", spec := "rootKeeps", unfollowed := true, recurses := true, apart := false, narrowed := true }
def RootKeepsUptoSaid : Prop := rootKeepsUptoRow.holds Try.pinned (OpenSpec.upto rootKeepsSpec)

/-- 'deadboltlaw09.RootSpots', WHERE WHAT IT READS IS OF BULK AT MOST 1048576: true; the input reads as it did. -/
def rootSpotsUptoRow : OpenClaim := { program := "ytdioecicakpfdaa", sum := "62a0beb6705a672fc3fb4f12ecba625edc04e7c70696607d53d8de658132a817", func := "deadbolt/deadboltlaw09.RootSpots", spec := "rootSpots", unfollowed := true, recurses := true, apart := false, narrowed := true }
def RootSpotsUptoSaid : Prop := rootSpotsUptoRow.holds Try.pinned (OpenSpec.upto rootSpotsSpec)

end Rows
end Go.Proofs.Ytdioecicakpfdaa
