/-
  No cell of these rows narrows 'for every input' (looked for: loops, veiled, ifaces, maps, wideKeys, modest, calm, conditions, laid).
  DERIVED. THE GIVEN ROWS OF THIS SEAT. 4 by the template 'for every input the law returns true; each argument reads behind the call as it read before'; 0 by the template 'total and deterministic' (their statements: YtgloccbcbgpneaaTotals.lean).
  GIVEN WITH THE SEED: the statements are not yours to turn. If you find one false, say at which input.
  Laid BY PROGRAM, IN A SANDBOX (cutbox-rows.mjs): the forced cells as the released guide's own fill.sh prints them over the translation 84d74397bdc3c59b… (all of the seat's roots in one cut). By AI agents, Wed Nov 11 2026. No macro, syntax, notation, axiom, sorry.
-/
import Derived.Test.YtgloccbcbgpneaaChecked
import GoSem.Claim
import GoSem.ClaimJoined
import GoSem.ClaimMapViews
import Derived.JoinedTies
import Derived.KernelRfl
namespace Go.Proofs.Ytgloccbcbgpneaa
/- THE CELL 'sum', in the pinned program and in every row, IS THE sha256 OF THE DUMP (.gsa) THAT YtgloccbcbgpneaaProg.lean LOADS. Nothing in Lean hashes anything: it is a label: what it is worth is what the hold of that sum in a sandbox is worth. -/
noncomputable def Try.pinned : Pinned := { name := "ytgloccbcbgpneaa", sum := "84d74397bdc3c59b9c58279313ab6c2d719e469cd221e61d12f21165af3e970c", checked := Try.checked }
namespace Rows
def none {H : Type} : Left H := { results := [], args := [] }

/-- 'deadboltlaw11.ParkTells': WHATEVER THE INPUT: true; the input reads as it did. -/
def parkTellsSpec : ChangeSpec := { name := "parkTells", fn := fun _ => fun
  | [d1, d2] => { results := [.lit (.bool true)], args := [d1, d2] }
  | _ => none }
def parkTellsRow : OpenClaim := { program := "ytgloccbcbgpneaa", sum := "84d74397bdc3c59b9c58279313ab6c2d719e469cd221e61d12f21165af3e970c", func := "deadbolt/deadboltlaw11.ParkTells", spec := "parkTells", unfollowed := true, recurses := true, apart := false }
def ParkTellsSaid : Prop := parkTellsRow.holds Try.pinned (OpenSpec.ofChange parkTellsSpec)

/-- ITS FALSE NEIGHBOUR: 'it returns false'. Refute it at one input. -/
def parkTellsWrong : ChangeSpec := { name := "parkTells", fn := fun _ => fun
  | [d1, d2] => { results := [.lit (.bool false)], args := [d1, d2] }
  | _ => none }
def ParkTellsWrongFalsely : Prop := parkTellsRow.holds Try.pinned (OpenSpec.ofChange parkTellsWrong)

/-- 'deadboltlaw11.ParkOnce': WHATEVER THE INPUT: true; the input reads as it did. -/
def parkOnceSpec : ChangeSpec := { name := "parkOnce", fn := fun _ => fun
  | [d1, d2] => { results := [.lit (.bool true)], args := [d1, d2] }
  | _ => none }
def parkOnceRow : OpenClaim := { program := "ytgloccbcbgpneaa", sum := "84d74397bdc3c59b9c58279313ab6c2d719e469cd221e61d12f21165af3e970c", func := "deadbolt/deadboltlaw11.ParkOnce", spec := "parkOnce", unfollowed := true, recurses := true, apart := false }
def ParkOnceSaid : Prop := parkOnceRow.holds Try.pinned (OpenSpec.ofChange parkOnceSpec)

/-- ITS FALSE NEIGHBOUR: 'it returns false'. Refute it at one input. -/
def parkOnceWrong : ChangeSpec := { name := "parkOnce", fn := fun _ => fun
  | [d1, d2] => { results := [.lit (.bool false)], args := [d1, d2] }
  | _ => none }
def ParkOnceWrongFalsely : Prop := parkOnceRow.holds Try.pinned (OpenSpec.ofChange parkOnceWrong)

/-- 'deadboltlaw11.ParkEither': WHATEVER THE INPUT: true; the input reads as it did. -/
def parkEitherSpec : ChangeSpec := { name := "parkEither", fn := fun _ => fun
  | [d1, d2] => { results := [.lit (.bool true)], args := [d1, d2] }
  | _ => none }
def parkEitherRow : OpenClaim := { program := "ytgloccbcbgpneaa", sum := "84d74397bdc3c59b9c58279313ab6c2d719e469cd221e61d12f21165af3e970c", func := "deadbolt/deadboltlaw11.ParkEither", spec := "parkEither", unfollowed := true, recurses := true, apart := false }
def ParkEitherSaid : Prop := parkEitherRow.holds Try.pinned (OpenSpec.ofChange parkEitherSpec)

/-- ITS FALSE NEIGHBOUR: 'it returns false'. Refute it at one input. -/
def parkEitherWrong : ChangeSpec := { name := "parkEither", fn := fun _ => fun
  | [d1, d2] => { results := [.lit (.bool false)], args := [d1, d2] }
  | _ => none }
def ParkEitherWrongFalsely : Prop := parkEitherRow.holds Try.pinned (OpenSpec.ofChange parkEitherWrong)

/-- 'deadboltlaw11.ParkRuns': WHATEVER THE INPUT: true; the input reads as it did. -/
def parkRunsSpec : ChangeSpec := { name := "parkRuns", fn := fun _ => fun
  | [d1, d2] => { results := [.lit (.bool true)], args := [d1, d2] }
  | _ => none }
def parkRunsRow : OpenClaim := { program := "ytgloccbcbgpneaa", sum := "84d74397bdc3c59b9c58279313ab6c2d719e469cd221e61d12f21165af3e970c", func := "deadbolt/deadboltlaw11.ParkRuns", spec := "parkRuns", unfollowed := true, recurses := true, apart := false }
def ParkRunsSaid : Prop := parkRunsRow.holds Try.pinned (OpenSpec.ofChange parkRunsSpec)

/-- ITS FALSE NEIGHBOUR: 'it returns false'. Refute it at one input. -/
def parkRunsWrong : ChangeSpec := { name := "parkRuns", fn := fun _ => fun
  | [d1, d2] => { results := [.lit (.bool false)], args := [d1, d2] }
  | _ => none }
def ParkRunsWrongFalsely : Prop := parkRunsRow.holds Try.pinned (OpenSpec.ofChange parkRunsWrong)

/- THE SECOND FORM. 'bulk': how many values and letters a reading holds, each counted each time it is reached (what is shared counts as often as it is met; a slice's spare places count too). A statement '..UptoSaid' is the law's where the arguments, and the package variables that the reading takes, are together of bulk at most 1048576: NARROWER than '..Said'. Prove '..Said' where nothing that the law and all that it calls make is longer than what came in: it says more and counts as full. Else prove '..UptoSaid'. A law counts once. -/
mutual
def uptoBulk {H : Type} : DataW H → Nat
  | .lit (.string bytes) => bytes.length + 1
  | .lit _ => 1
  | .nil => 1
  | .ptr d => uptoBulk d + 1
  | .slice elems spare => uptoBulkAll elems + uptoBulkAll spare + 1
  | .agg parts => uptoBulkAll parts + 1
  | .iface _ d => uptoBulk d + 1
  | .map entries => uptoBulkEntries entries + 1
  | .held _ => 1
def uptoBulkAll {H : Type} : List (DataW H) → Nat
  | [] => 0
  | d :: r => uptoBulk d + uptoBulkAll r
def uptoBulkEntries {H : Type} : List (Lit × DataW H) → Nat
  | [] => 0
  | x :: r => uptoBulkEntry x + uptoBulkEntries r
def uptoBulkEntry {H : Type} : Lit × DataW H → Nat
  | (.string bytes, d) => bytes.length + uptoBulk d + 1
  | (_, d) => uptoBulk d + 1
 end
def uptoSmall : (H : Type) → List (DataW H) → Bool := fun _ ds => decide (uptoBulkAll ds ≤ 1048576)
def OpenSpec.upto (s : _root_.Go.ChangeSpec) : _root_.Go.OpenSpec := { _root_.Go.OpenSpec.ofChange s with cond := some uptoSmall }

/-- 'deadboltlaw11.ParkTells', WHERE WHAT IT READS IS OF BULK AT MOST 1048576: true; the input reads as it did. -/
def parkTellsUptoRow : OpenClaim := { program := "ytgloccbcbgpneaa", sum := "84d74397bdc3c59b9c58279313ab6c2d719e469cd221e61d12f21165af3e970c", func := "deadbolt/deadboltlaw11.ParkTells", spec := "parkTells", unfollowed := true, recurses := true, apart := false, narrowed := true }
def ParkTellsUptoSaid : Prop := parkTellsUptoRow.holds Try.pinned (OpenSpec.upto parkTellsSpec)

/-- 'deadboltlaw11.ParkOnce', WHERE WHAT IT READS IS OF BULK AT MOST 1048576: true; the input reads as it did. -/
def parkOnceUptoRow : OpenClaim := { program := "ytgloccbcbgpneaa", sum := "84d74397bdc3c59b9c58279313ab6c2d719e469cd221e61d12f21165af3e970c", func := "deadbolt/deadboltlaw11.ParkOnce", spec := "parkOnce", unfollowed := true, recurses := true, apart := false, narrowed := true }
def ParkOnceUptoSaid : Prop := parkOnceUptoRow.holds Try.pinned (OpenSpec.upto parkOnceSpec)

/-- 'deadboltlaw11.ParkEither', WHERE WHAT IT READS IS OF BULK AT MOST 1048576: true; the input reads as it did. -/
def parkEitherUptoRow : OpenClaim := { program := "ytgloccbcbgpneaa", sum := "84d74397bdc3c59b9c58279313ab6c2d719e469cd221e61d12f21165af3e970c", func := "deadbolt/deadboltlaw11.ParkEither", spec := "parkEither", unfollowed := true, recurses := true, apart := false, narrowed := true }
def ParkEitherUptoSaid : Prop := parkEitherUptoRow.holds Try.pinned (OpenSpec.upto parkEitherSpec)

/-- 'deadboltlaw11.ParkRuns', WHERE WHAT IT READS IS OF BULK AT MOST 1048576: true; the input reads as it did. -/
def parkRunsUptoRow : OpenClaim := { program := "ytgloccbcbgpneaa", sum := "84d74397bdc3c59b9c58279313ab6c2d719e469cd221e61d12f21165af3e970c", func := "deadbolt/deadboltlaw11.ParkRuns", spec := "parkRuns", unfollowed := true, recurses := true, apart := false, narrowed := true }
def ParkRunsUptoSaid : Prop := parkRunsUptoRow.holds Try.pinned (OpenSpec.upto parkRunsSpec)

end Rows
end Go.Proofs.Ytgloccbcbgpneaa
