/-
  No cell of these rows narrows 'for every input' (looked for: loops, veiled, ifaces, maps, wideKeys, modest, calm, conditions, laid).
  DERIVED. THE GIVEN ROWS OF THIS SEAT. 3 by the template 'for every input the law returns true; each argument reads behind the call as it read before'; 0 by the template 'total and deterministic' (their statements: YtibbndoohpfbmaaTotals.lean).
  GIVEN WITH THE SEED: the statements are not yours to turn. If you find one false, say at which input.
  Laid BY PROGRAM, IN A SANDBOX (cutbox-rows.mjs): the forced cells as the released guide's own fill.sh prints them over the translation 151c8a6ec13cffc8… (all of the seat's roots in one cut). By AI agents, Wed Nov 11 2026. No macro, syntax, notation, axiom, sorry.
-/
import Derived.Test.YtibbndoohpfbmaaChecked
import GoSem.Claim
import GoSem.ClaimJoined
import GoSem.ClaimMapViews
import Derived.JoinedTies
import Derived.KernelRfl
namespace Go.Proofs.Ytibbndoohpfbmaa
/- THE CELL 'sum', in the pinned program and in every row, IS THE sha256 OF THE DUMP (.gsa) THAT YtibbndoohpfbmaaProg.lean LOADS. Nothing in Lean hashes anything: it is a label: what it is worth is what the hold of that sum in a sandbox is worth. -/
noncomputable def Try.pinned : Pinned := { name := "ytibbndoohpfbmaa", sum := "151c8a6ec13cffc895896ec6c480ea0e17253e1722977a6b6fef23d6fb9b77ae", checked := Try.checked }
namespace Rows
def none {H : Type} : Left H := { results := [], args := [] }

/-- 'deadboltlaw06.SpinTells': WHATEVER THE INPUT: true; the input reads as it did. -/
def spinTellsSpec : ChangeSpec := { name := "spinTells", fn := fun _ => fun
  | [d1, d2, d3, d4] => { results := [.lit (.bool true)], args := [d1, d2, d3, d4] }
  | _ => none }
def spinTellsRow : OpenClaim := { program := "ytibbndoohpfbmaa", sum := "151c8a6ec13cffc895896ec6c480ea0e17253e1722977a6b6fef23d6fb9b77ae", func := "deadbolt/deadboltlaw06.SpinTells", spec := "spinTells", unfollowed := true, recurses := true, apart := false }
def SpinTellsSaid : Prop := spinTellsRow.holds Try.pinned (OpenSpec.ofChange spinTellsSpec)

/-- ITS FALSE NEIGHBOUR: 'it returns false'. Refute it at one input. -/
def spinTellsWrong : ChangeSpec := { name := "spinTells", fn := fun _ => fun
  | [d1, d2, d3, d4] => { results := [.lit (.bool false)], args := [d1, d2, d3, d4] }
  | _ => none }
def SpinTellsWrongFalsely : Prop := spinTellsRow.holds Try.pinned (OpenSpec.ofChange spinTellsWrong)

/-- 'deadboltlaw06.SpinTurns': WHATEVER THE INPUT: true; the input reads as it did. -/
def spinTurnsSpec : ChangeSpec := { name := "spinTurns", fn := fun _ => fun
  | [d1, d2] => { results := [.lit (.bool true)], args := [d1, d2] }
  | _ => none }
def spinTurnsRow : OpenClaim := { program := "ytibbndoohpfbmaa", sum := "151c8a6ec13cffc895896ec6c480ea0e17253e1722977a6b6fef23d6fb9b77ae", func := "deadbolt/deadboltlaw06.SpinTurns", spec := "spinTurns", unfollowed := true, recurses := true, apart := false }
def SpinTurnsSaid : Prop := spinTurnsRow.holds Try.pinned (OpenSpec.ofChange spinTurnsSpec)

/-- ITS FALSE NEIGHBOUR: 'it returns false'. Refute it at one input. -/
def spinTurnsWrong : ChangeSpec := { name := "spinTurns", fn := fun _ => fun
  | [d1, d2] => { results := [.lit (.bool false)], args := [d1, d2] }
  | _ => none }
def SpinTurnsWrongFalsely : Prop := spinTurnsRow.holds Try.pinned (OpenSpec.ofChange spinTurnsWrong)

/-- 'deadboltlaw06.SpinDraws': WHATEVER THE INPUT: true; the input reads as it did. -/
def spinDrawsSpec : ChangeSpec := { name := "spinDraws", fn := fun _ => fun
  | [d] => { results := [.lit (.bool true)], args := [d] }
  | _ => none }
def spinDrawsRow : OpenClaim := { program := "ytibbndoohpfbmaa", sum := "151c8a6ec13cffc895896ec6c480ea0e17253e1722977a6b6fef23d6fb9b77ae", func := "deadbolt/deadboltlaw06.SpinDraws", spec := "spinDraws", unfollowed := true, recurses := true, apart := false }
def SpinDrawsSaid : Prop := spinDrawsRow.holds Try.pinned (OpenSpec.ofChange spinDrawsSpec)

/-- ITS FALSE NEIGHBOUR: 'it returns false'. Refute it at one input. -/
def spinDrawsWrong : ChangeSpec := { name := "spinDraws", fn := fun _ => fun
  | [d] => { results := [.lit (.bool false)], args := [d] }
  | _ => none }
def SpinDrawsWrongFalsely : Prop := spinDrawsRow.holds Try.pinned (OpenSpec.ofChange spinDrawsWrong)

/- THE SECOND FORM. 'bulk': how many values and letters a reading holds, each counted each time it is reached (what is shared counts as often as it is met; a slice's spare places count too). A statement '..UptoSaid' is the law's where the arguments, and the package variables that the reading takes, are together of bulk at most 1048576: NARROWER than '..Said'. Prove '..Said' where nothing that the law and all that it calls make is longer than what came in: it says more and counts as full. Else prove '..UptoSaid'. A law counts once. -/
mutual
def uptoBulk {H : Type} : DataW H → Nat
  | .lit (.string bytes) => bytes.length + 1
  | .lit _ => 1
  | .nil => 1
  | .ptr d => uptoBulk d + 1
  | .slice elems spare => uptoBulkAll elems + uptoBulkAll spare + 1
  | .agg parts => uptoBulkAll parts + 1
  | .iface _ d => uptoBulk d + 1
  | .map entries => uptoBulkEntries entries + 1
  | .held _ => 1
def uptoBulkAll {H : Type} : List (DataW H) → Nat
  | [] => 0
  | d :: r => uptoBulk d + uptoBulkAll r
def uptoBulkEntries {H : Type} : List (Lit × DataW H) → Nat
  | [] => 0
  | x :: r => uptoBulkEntry x + uptoBulkEntries r
def uptoBulkEntry {H : Type} : Lit × DataW H → Nat
  | (.string bytes, d) => bytes.length + uptoBulk d + 1
  | (_, d) => uptoBulk d + 1
 end
def uptoSmall : (H : Type) → List (DataW H) → Bool := fun _ ds => decide (uptoBulkAll ds ≤ 1048576)
def OpenSpec.upto (s : _root_.Go.ChangeSpec) : _root_.Go.OpenSpec := { _root_.Go.OpenSpec.ofChange s with cond := some uptoSmall }

/-- 'deadboltlaw06.SpinTells', WHERE WHAT IT READS IS OF BULK AT MOST 1048576: true; the input reads as it did. -/
def spinTellsUptoRow : OpenClaim := { program := "ytibbndoohpfbmaa", sum := "151c8a6ec13cffc895896ec6c480ea0e17253e1722977a6b6fef23d6fb9b77ae", func := "deadbolt/deadboltlaw06.SpinTells", spec := "spinTells", unfollowed := true, recurses := true, apart := false, narrowed := true }
def SpinTellsUptoSaid : Prop := spinTellsUptoRow.holds Try.pinned (OpenSpec.upto spinTellsSpec)

/-- 'deadboltlaw06.SpinTurns', WHERE WHAT IT READS IS OF BULK AT MOST 1048576: true; the input reads as it did. -/
def spinTurnsUptoRow : OpenClaim := { program := "ytibbndoohpfbmaa", sum := "151c8a6ec13cffc895896ec6c480ea0e17253e1722977a6b6fef23d6fb9b77ae", func := "deadbolt/deadboltlaw06.SpinTurns", spec := "spinTurns", unfollowed := true, recurses := true, apart := false, narrowed := true }
def SpinTurnsUptoSaid : Prop := spinTurnsUptoRow.holds Try.pinned (OpenSpec.upto spinTurnsSpec)

/-- 'deadboltlaw06.SpinDraws', WHERE WHAT IT READS IS OF BULK AT MOST 1048576: true; the input reads as it did. -/
def spinDrawsUptoRow : OpenClaim := { program := "ytibbndoohpfbmaa", sum := "151c8a6ec13cffc895896ec6c480ea0e17253e1722977a6b6fef23d6fb9b77ae", func := "deadbolt/deadboltlaw06.SpinDraws", spec := "spinDraws", unfollowed := true, recurses := true, apart := false, narrowed := true }
def SpinDrawsUptoSaid : Prop := spinDrawsUptoRow.holds Try.pinned (OpenSpec.upto spinDrawsSpec)

end Rows
end Go.Proofs.Ytibbndoohpfbmaa
