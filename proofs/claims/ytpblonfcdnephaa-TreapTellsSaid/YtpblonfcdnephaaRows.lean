/-
  No cell of these rows narrows 'for every input' (looked for: loops, veiled, ifaces, maps, wideKeys, modest, calm, conditions, laid).
  DERIVED. THE GIVEN ROWS OF THIS SEAT. 5 by the template 'for every input the law returns true; each argument reads behind the call as it read before'; 0 by the template 'total and deterministic' (their statements: YtpblonfcdnephaaTotals.lean).
  GIVEN WITH THE SEED: the statements are not yours to turn. If you find one false, say at which input.
  Laid BY PROGRAM, IN A SANDBOX (cutbox-rows.mjs): the forced cells as the released guide's own fill.sh prints them over the translation e1dbe579b26318ee… (all of the seat's roots in one cut). By AI agents, Wed Nov 11 2026. No macro, syntax, notation, axiom, sorry.
-/
import Derived.Test.YtpblonfcdnephaaChecked
import GoSem.Claim
import GoSem.ClaimJoined
import GoSem.ClaimMapViews
import Derived.JoinedTies
import Derived.KernelRfl
namespace Go.Proofs.Ytpblonfcdnephaa
/- THE CELL 'sum', in the pinned program and in every row, IS THE sha256 OF THE DUMP (.gsa) THAT YtpblonfcdnephaaProg.lean LOADS. Nothing in Lean hashes anything: it is a label: what it is worth is what the hold of that sum in a sandbox is worth. -/
noncomputable def Try.pinned : Pinned := { name := "ytpblonfcdnephaa", sum := "e1dbe579b26318eeb9187f036c4c6f3b1a55107ae81c7973c7e22af7cbc6b3a8", checked := Try.checked }
namespace Rows
def none {H : Type} : Left H := { results := [], args := [] }

/-- 'deadboltlaw08.TreapTells': WHATEVER THE INPUT: true; the input reads as it did. -/
def treapTellsSpec : ChangeSpec := { name := "treapTells", fn := fun _ => fun
  | [d1, d2] => { results := [.lit (.bool true)], args := [d1, d2] }
  | _ => none }
def treapTellsRow : OpenClaim := { program := "ytpblonfcdnephaa", sum := "e1dbe579b26318eeb9187f036c4c6f3b1a55107ae81c7973c7e22af7cbc6b3a8", func := "deadbolt/deadboltlaw08.TreapTells", spec := "treapTells", unfollowed := true, recurses := true, apart := false }
def TreapTellsSaid : Prop := treapTellsRow.holds Try.pinned (OpenSpec.ofChange treapTellsSpec)

/-- ITS FALSE NEIGHBOUR: 'it returns false'. Refute it at one input. -/
def treapTellsWrong : ChangeSpec := { name := "treapTells", fn := fun _ => fun
  | [d1, d2] => { results := [.lit (.bool false)], args := [d1, d2] }
  | _ => none }
def TreapTellsWrongFalsely : Prop := treapTellsRow.holds Try.pinned (OpenSpec.ofChange treapTellsWrong)

/-- 'deadboltlaw08.TreapTurns': WHATEVER THE INPUT: true; the input reads as it did. -/
def treapTurnsSpec : ChangeSpec := { name := "treapTurns", fn := fun _ => fun
  | [d1, d2] => { results := [.lit (.bool true)], args := [d1, d2] }
  | _ => none }
def treapTurnsRow : OpenClaim := { program := "ytpblonfcdnephaa", sum := "e1dbe579b26318eeb9187f036c4c6f3b1a55107ae81c7973c7e22af7cbc6b3a8", func := "deadbolt/deadboltlaw08.TreapTurns", spec := "treapTurns", unfollowed := true, recurses := true, apart := false }
def TreapTurnsSaid : Prop := treapTurnsRow.holds Try.pinned (OpenSpec.ofChange treapTurnsSpec)

/-- ITS FALSE NEIGHBOUR: 'it returns false'. Refute it at one input. -/
def treapTurnsWrong : ChangeSpec := { name := "treapTurns", fn := fun _ => fun
  | [d1, d2] => { results := [.lit (.bool false)], args := [d1, d2] }
  | _ => none }
def TreapTurnsWrongFalsely : Prop := treapTurnsRow.holds Try.pinned (OpenSpec.ofChange treapTurnsWrong)

/-- 'deadboltlaw08.TreapShape': WHATEVER THE INPUT: true; the input reads as it did. -/
def treapShapeSpec : ChangeSpec := { name := "treapShape", fn := fun _ => fun
  | [d1, d2, d3] => { results := [.lit (.bool true)], args := [d1, d2, d3] }
  | _ => none }
def treapShapeRow : OpenClaim := { program := "ytpblonfcdnephaa", sum := "e1dbe579b26318eeb9187f036c4c6f3b1a55107ae81c7973c7e22af7cbc6b3a8", func := "deadbolt/deadboltlaw08.TreapShape", spec := "treapShape", unfollowed := true, recurses := true, apart := false }
def TreapShapeSaid : Prop := treapShapeRow.holds Try.pinned (OpenSpec.ofChange treapShapeSpec)

/-- ITS FALSE NEIGHBOUR: 'it returns false'. Refute it at one input. -/
def treapShapeWrong : ChangeSpec := { name := "treapShape", fn := fun _ => fun
  | [d1, d2, d3] => { results := [.lit (.bool false)], args := [d1, d2, d3] }
  | _ => none }
def TreapShapeWrongFalsely : Prop := treapShapeRow.holds Try.pinned (OpenSpec.ofChange treapShapeWrong)

/-- 'deadboltlaw08.TreapNext': WHATEVER THE INPUT: true; the input reads as it did. -/
def treapNextSpec : ChangeSpec := { name := "treapNext", fn := fun _ => fun
  | [d1, d2, d3] => { results := [.lit (.bool true)], args := [d1, d2, d3] }
  | _ => none }
def treapNextRow : OpenClaim := { program := "ytpblonfcdnephaa", sum := "e1dbe579b26318eeb9187f036c4c6f3b1a55107ae81c7973c7e22af7cbc6b3a8", func := "deadbolt/deadboltlaw08.TreapNext", spec := "treapNext", unfollowed := true, recurses := true, apart := false }
def TreapNextSaid : Prop := treapNextRow.holds Try.pinned (OpenSpec.ofChange treapNextSpec)

/-- ITS FALSE NEIGHBOUR: 'it returns false'. Refute it at one input. -/
def treapNextWrong : ChangeSpec := { name := "treapNext", fn := fun _ => fun
  | [d1, d2, d3] => { results := [.lit (.bool false)], args := [d1, d2, d3] }
  | _ => none }
def TreapNextWrongFalsely : Prop := treapNextRow.holds Try.pinned (OpenSpec.ofChange treapNextWrong)

/-- 'deadboltlaw08.TreapBack': WHATEVER THE INPUT: true; the input reads as it did. -/
def treapBackSpec : ChangeSpec := { name := "treapBack", fn := fun _ => fun
  | [d1, d2] => { results := [.lit (.bool true)], args := [d1, d2] }
  | _ => none }
def treapBackRow : OpenClaim := { program := "ytpblonfcdnephaa", sum := "e1dbe579b26318eeb9187f036c4c6f3b1a55107ae81c7973c7e22af7cbc6b3a8", func := "deadbolt/deadboltlaw08.TreapBack", spec := "treapBack", unfollowed := true, recurses := true, apart := false }
def TreapBackSaid : Prop := treapBackRow.holds Try.pinned (OpenSpec.ofChange treapBackSpec)

/-- ITS FALSE NEIGHBOUR: 'it returns false'. Refute it at one input. -/
def treapBackWrong : ChangeSpec := { name := "treapBack", fn := fun _ => fun
  | [d1, d2] => { results := [.lit (.bool false)], args := [d1, d2] }
  | _ => none }
def TreapBackWrongFalsely : Prop := treapBackRow.holds Try.pinned (OpenSpec.ofChange treapBackWrong)

/- THE SECOND FORM. 'bulk': how many values and letters a reading holds, each counted each time it is reached (what is shared counts as often as it is met; a slice's spare places count too). A statement '..UptoSaid' is the law's where the arguments, and the package variables that the reading takes, are together of bulk at most 1048576: NARROWER than '..Said'. Prove '..Said' where nothing that the law and all that it calls make is longer than what came in: it says more and counts as full. Else prove '..UptoSaid'. A law counts once. -/
mutual
def uptoBulk {H : Type} : DataW H → Nat
  | .lit (.string bytes) => bytes.length + 1
  | .lit _ => 1
  | .nil => 1
  | .ptr d => uptoBulk d + 1
  | .slice elems spare => uptoBulkAll elems + uptoBulkAll spare + 1
  | .agg parts => uptoBulkAll parts + 1
  | .iface _ d => uptoBulk d + 1
  | .map entries => uptoBulkEntries entries + 1
  | .held _ => 1
def uptoBulkAll {H : Type} : List (DataW H) → Nat
  | [] => 0
  | d :: r => uptoBulk d + uptoBulkAll r
def uptoBulkEntries {H : Type} : List (Lit × DataW H) → Nat
  | [] => 0
  | x :: r => uptoBulkEntry x + uptoBulkEntries r
def uptoBulkEntry {H : Type} : Lit × DataW H → Nat
  | (.string bytes, d) => bytes.length + uptoBulk d + 1
  | (_, d) => uptoBulk d + 1
 end
def uptoSmall : (H : Type) → List (DataW H) → Bool := fun _ ds => decide (uptoBulkAll ds ≤ 1048576)
def OpenSpec.upto (s : _root_.Go.ChangeSpec) : _root_.Go.OpenSpec := { _root_.Go.OpenSpec.ofChange s with cond := some uptoSmall }

/-- 'deadboltlaw08.TreapTells', WHERE WHAT IT READS IS OF BULK AT MOST 1048576: true; the input reads as it did. -/
def treapTellsUptoRow : OpenClaim := { program := "ytpblonfcdnephaa", sum := "e1dbe579b26318eeb9187f036c4c6f3b1a55107ae81c7973c7e22af7cbc6b3a8", func := "deadbolt/deadboltlaw08.TreapTells", spec := "treapTells", unfollowed := true, recurses := true, apart := false, narrowed := true }
def TreapTellsUptoSaid : Prop := treapTellsUptoRow.holds Try.pinned (OpenSpec.upto treapTellsSpec)

/-- 'deadboltlaw08.TreapTurns', WHERE WHAT IT READS IS OF BULK AT MOST 1048576: true; the input reads as it did. -/
def treapTurnsUptoRow : OpenClaim := { program := "ytpblonfcdnephaa", sum := "e1dbe579b26318eeb9187f036c4c6f3b1a55107ae81c7973c7e22af7cbc6b3a8", func := "deadbolt/deadboltlaw08.TreapTurns", spec := "treapTurns", unfollowed := true, recurses := true, apart := false, narrowed := true }
def TreapTurnsUptoSaid : Prop := treapTurnsUptoRow.holds Try.pinned (OpenSpec.upto treapTurnsSpec)

/-- 'deadboltlaw08.TreapShape', WHERE WHAT IT READS IS OF BULK AT MOST 1048576: true; the input reads as it did. -/
def treapShapeUptoRow : OpenClaim := { program := "ytpblonfcdnephaa", sum := "e1dbe579b26318eeb9187f036c4c6f3b1a55107ae81c7973c7e22af7cbc6b3a8", func := "deadbolt/deadboltlaw08.TreapShape", spec := "treapShape", unfollowed := true, recurses := true, apart := false, narrowed := true }
def TreapShapeUptoSaid : Prop := treapShapeUptoRow.holds Try.pinned (OpenSpec.upto treapShapeSpec)

/-- 'deadboltlaw08.TreapNext', WHERE WHAT IT READS IS OF BULK AT MOST 1048576: true; the input reads as it did. -/
def treapNextUptoRow : OpenClaim := { program := "ytpblonfcdnephaa", sum := "e1dbe579b26318eeb9187f036c4c6f3b1a55107ae81c7973c7e22af7cbc6b3a8", func := "deadbolt/deadboltlaw08.TreapNext", spec := "treapNext", unfollowed := true, recurses := true, apart := false, narrowed := true }
def TreapNextUptoSaid : Prop := treapNextUptoRow.holds Try.pinned (OpenSpec.upto treapNextSpec)

/-- 'deadboltlaw08.TreapBack', WHERE WHAT IT READS IS OF BULK AT MOST 1048576: true; the input reads as it did. -/
def treapBackUptoRow : OpenClaim := { program := "ytpblonfcdnephaa", sum := "e1dbe579b26318eeb9187f036c4c6f3b1a55107ae81c7973c7e22af7cbc6b3a8", func := "deadbolt/deadboltlaw08.TreapBack", spec := "treapBack", unfollowed := true, recurses := true, apart := false, narrowed := true }
def TreapBackUptoSaid : Prop := treapBackUptoRow.holds Try.pinned (OpenSpec.upto treapBackSpec)

end Rows
end Go.Proofs.Ytpblonfcdnephaa
