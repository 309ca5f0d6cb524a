/-
  No cell of these rows narrows 'for every input' (looked for: loops, veiled, ifaces, maps, wideKeys, modest, calm, conditions, laid).
  DERIVED. THE GIVEN ROWS OF THIS SEAT. 5 by the template 'for every input the law returns true; each argument reads behind the call as it read before'; 0 by the template 'total and deterministic' (their statements: YtddgihbgdlnlbaaTotals.lean).
  GIVEN WITH THE SEED: the statements are not yours to turn. If you find one false, say at which input.
  Laid BY PROGRAM, IN A SANDBOX (cutbox-rows.mjs): the forced cells as the released guide's own fill.sh prints them over the translation 4c2a428b6c66481c… (all of the seat's roots in one cut). By AI agents, Wed Nov 11 2026. No macro, syntax, notation, axiom, sorry.
-/
import Derived.Test.YtddgihbgdlnlbaaChecked
import GoSem.Claim
import GoSem.ClaimJoined
import GoSem.ClaimMapViews
import Derived.JoinedTies
import Derived.KernelRfl
namespace Go.Proofs.Ytddgihbgdlnlbaa
/- THE CELL 'sum', in the pinned program and in every row, IS THE sha256 OF THE DUMP (.gsa) THAT YtddgihbgdlnlbaaProg.lean LOADS. Nothing in Lean hashes anything: it is a label: what it is worth is what the hold of that sum in a sandbox is worth. -/
noncomputable def Try.pinned : Pinned := { name := "ytddgihbgdlnlbaa", sum := "4c2a428b6c66481c289961ca65798af07b5b3e677f449f5e8ba4497198c5c1ac", checked := Try.checked }
namespace Rows
def none {H : Type} : Left H := { results := [], args := [] }

/-- 'deadboltlaw14.GrabSees': WHATEVER THE INPUT: true; the input reads as it did. -/
def grabSeesSpec : ChangeSpec := { name := "grabSees", fn := fun _ => fun
  | [d1, d2] => { results := [.lit (.bool true)], args := [d1, d2] }
  | _ => none }
def grabSeesRow : OpenClaim := { program := "ytddgihbgdlnlbaa", sum := "4c2a428b6c66481c289961ca65798af07b5b3e677f449f5e8ba4497198c5c1ac", func := "deadbolt/deadboltlaw14.GrabSees", spec := "grabSees", unfollowed := true, recurses := true, apart := false }
def GrabSeesSaid : Prop := grabSeesRow.holds Try.pinned (OpenSpec.ofChange grabSeesSpec)

/-- ITS FALSE NEIGHBOUR: 'it returns false'. Refute it at one input. -/
def grabSeesWrong : ChangeSpec := { name := "grabSees", fn := fun _ => fun
  | [d1, d2] => { results := [.lit (.bool false)], args := [d1, d2] }
  | _ => none }
def GrabSeesWrongFalsely : Prop := grabSeesRow.holds Try.pinned (OpenSpec.ofChange grabSeesWrong)

/-- 'deadboltlaw14.GrabSleeps': WHATEVER THE INPUT: true; the input reads as it did. -/
def grabSleepsSpec : ChangeSpec := { name := "grabSleeps", fn := fun _ => fun
  | [d1, d2, d3] => { results := [.lit (.bool true)], args := [d1, d2, d3] }
  | _ => none }
def grabSleepsRow : OpenClaim := { program := "ytddgihbgdlnlbaa", sum := "4c2a428b6c66481c289961ca65798af07b5b3e677f449f5e8ba4497198c5c1ac", func := "deadbolt/deadboltlaw14.GrabSleeps", spec := "grabSleeps", unfollowed := true, recurses := true, apart := false }
def GrabSleepsSaid : Prop := grabSleepsRow.holds Try.pinned (OpenSpec.ofChange grabSleepsSpec)

/-- ITS FALSE NEIGHBOUR: 'it returns false'. Refute it at one input. -/
def grabSleepsWrong : ChangeSpec := { name := "grabSleeps", fn := fun _ => fun
  | [d1, d2, d3] => { results := [.lit (.bool false)], args := [d1, d2, d3] }
  | _ => none }
def GrabSleepsWrongFalsely : Prop := grabSleepsRow.holds Try.pinned (OpenSpec.ofChange grabSleepsWrong)

/-- 'deadboltlaw14.GrabWants': WHATEVER THE INPUT: true; the input reads as it did. -/
def grabWantsSpec : ChangeSpec := { name := "grabWants", fn := fun _ => fun
  | [d] => { results := [.lit (.bool true)], args := [d] }
  | _ => none }
def grabWantsRow : OpenClaim := { program := "ytddgihbgdlnlbaa", sum := "4c2a428b6c66481c289961ca65798af07b5b3e677f449f5e8ba4497198c5c1ac", func := "deadbolt/deadboltlaw14.GrabWants", spec := "grabWants", unfollowed := true, recurses := true, apart := false }
def GrabWantsSaid : Prop := grabWantsRow.holds Try.pinned (OpenSpec.ofChange grabWantsSpec)

/-- ITS FALSE NEIGHBOUR: 'it returns false'. Refute it at one input. -/
def grabWantsWrong : ChangeSpec := { name := "grabWants", fn := fun _ => fun
  | [d] => { results := [.lit (.bool false)], args := [d] }
  | _ => none }
def GrabWantsWrongFalsely : Prop := grabWantsRow.holds Try.pinned (OpenSpec.ofChange grabWantsWrong)

/-- 'deadboltlaw14.GrabHanded': WHATEVER THE INPUT: true; the input reads as it did. -/
def grabHandedSpec : ChangeSpec := { name := "grabHanded", fn := fun _ => fun
  | [d] => { results := [.lit (.bool true)], args := [d] }
  | _ => none }
def grabHandedRow : OpenClaim := { program := "ytddgihbgdlnlbaa", sum := "4c2a428b6c66481c289961ca65798af07b5b3e677f449f5e8ba4497198c5c1ac", func := "deadbolt/deadboltlaw14.GrabHanded", spec := "grabHanded", unfollowed := true, recurses := true, apart := false }
def GrabHandedSaid : Prop := grabHandedRow.holds Try.pinned (OpenSpec.ofChange grabHandedSpec)

/-- ITS FALSE NEIGHBOUR: 'it returns false'. Refute it at one input. -/
def grabHandedWrong : ChangeSpec := { name := "grabHanded", fn := fun _ => fun
  | [d] => { results := [.lit (.bool false)], args := [d] }
  | _ => none }
def GrabHandedWrongFalsely : Prop := grabHandedRow.holds Try.pinned (OpenSpec.ofChange grabHandedWrong)

/-- 'deadboltlaw14.GrabWaits': WHATEVER THE INPUT: true; the input reads as it did. -/
def grabWaitsSpec : ChangeSpec := { name := "grabWaits", fn := fun _ => fun
  | [d1, d2, d3, d4] => { results := [.lit (.bool true)], args := [d1, d2, d3, d4] }
  | _ => none }
def grabWaitsRow : OpenClaim := { program := "ytddgihbgdlnlbaa", sum := "4c2a428b6c66481c289961ca65798af07b5b3e677f449f5e8ba4497198c5c1ac", func := "deadbolt/deadboltlaw14.GrabWaits", spec := "grabWaits", unfollowed := true, recurses := true, apart := false }
def GrabWaitsSaid : Prop := grabWaitsRow.holds Try.pinned (OpenSpec.ofChange grabWaitsSpec)

/-- ITS FALSE NEIGHBOUR: 'it returns false'. Refute it at one input. -/
def grabWaitsWrong : ChangeSpec := { name := "grabWaits", fn := fun _ => fun
  | [d1, d2, d3, d4] => { results := [.lit (.bool false)], args := [d1, d2, d3, d4] }
  | _ => none }
def GrabWaitsWrongFalsely : Prop := grabWaitsRow.holds Try.pinned (OpenSpec.ofChange grabWaitsWrong)

/- THE SECOND FORM. 'bulk': how many values and letters a reading holds, each counted each time it is reached (what is shared counts as often as it is met; a slice's spare places count too). A statement '..UptoSaid' is the law's where the arguments, and the package variables that the reading takes, are together of bulk at most 1048576: NARROWER than '..Said'. Prove '..Said' where nothing that the law and all that it calls make is longer than what came in: it says more and counts as full. Else prove '..UptoSaid'. A law counts once. -/
mutual
def uptoBulk {H : Type} : DataW H → Nat
  | .lit (.string bytes) => bytes.length + 1
  | .lit _ => 1
  | .nil => 1
  | .ptr d => uptoBulk d + 1
  | .slice elems spare => uptoBulkAll elems + uptoBulkAll spare + 1
  | .agg parts => uptoBulkAll parts + 1
  | .iface _ d => uptoBulk d + 1
  | .map entries => uptoBulkEntries entries + 1
  | .held _ => 1
def uptoBulkAll {H : Type} : List (DataW H) → Nat
  | [] => 0
  | d :: r => uptoBulk d + uptoBulkAll r
def uptoBulkEntries {H : Type} : List (Lit × DataW H) → Nat
  | [] => 0
  | x :: r => uptoBulkEntry x + uptoBulkEntries r
def uptoBulkEntry {H : Type} : Lit × DataW H → Nat
  | (.string bytes, d) => bytes.length + uptoBulk d + 1
  | (_, d) => uptoBulk d + 1
 end
def uptoSmall : (H : Type) → List (DataW H) → Bool := fun _ ds => decide (uptoBulkAll ds ≤ 1048576)
def OpenSpec.upto (s : _root_.Go.ChangeSpec) : _root_.Go.OpenSpec := { _root_.Go.OpenSpec.ofChange s with cond := some uptoSmall }

/-- 'deadboltlaw14.GrabSees', WHERE WHAT IT READS IS OF BULK AT MOST 1048576: true; the input reads as it did. -/
def grabSeesUptoRow : OpenClaim := { program := "ytddgihbgdlnlbaa", sum := "4c2a428b6c66481c289961ca65798af07b5b3e677f449f5e8ba4497198c5c1ac", func := "deadbolt/deadboltlaw14.GrabSees", spec := "grabSees", unfollowed := true, recurses := true, apart := false, narrowed := true }
def GrabSeesUptoSaid : Prop := grabSeesUptoRow.holds Try.pinned (OpenSpec.upto grabSeesSpec)

/-- 'deadboltlaw14.GrabSleeps', WHERE WHAT IT READS IS OF BULK AT MOST 1048576: true; the input reads as it did. -/
def grabSleepsUptoRow : OpenClaim := { program := "ytddgihbgdlnlbaa", sum := "4c2a428b6c66481c289961ca65798af07b5b3e677f449f5e8ba4497198c5c1ac", func := "deadbolt/deadboltlaw14.GrabSleeps", spec := "grabSleeps", unfollowed := true, recurses := true, apart := false, narrowed := true }
def GrabSleepsUptoSaid : Prop := grabSleepsUptoRow.holds Try.pinned (OpenSpec.upto grabSleepsSpec)

/-- 'deadboltlaw14.GrabWants', WHERE WHAT IT READS IS OF BULK AT MOST 1048576: true; the input reads as it did. -/
def grabWantsUptoRow : OpenClaim := { program := "ytddgihbgdlnlbaa", sum := "4c2a428b6c66481c289961ca65798af07b5b3e677f449f5e8ba4497198c5c1ac", func := "deadbolt/deadboltlaw14.GrabWants", spec := "grabWants", unfollowed := true, recurses := true, apart := false, narrowed := true }
def GrabWantsUptoSaid : Prop := grabWantsUptoRow.holds Try.pinned (OpenSpec.upto grabWantsSpec)

/-- 'deadboltlaw14.GrabHanded', WHERE WHAT IT READS IS OF BULK AT MOST 1048576: true; the input reads as it did. -/
def grabHandedUptoRow : OpenClaim := { program := "ytddgihbgdlnlbaa", sum := "4c2a428b6c66481c289961ca65798af07b5b3e677f449f5e8ba4497198c5c1ac", func := "deadbolt/deadboltlaw14.GrabHanded", spec := "grabHanded", unfollowed := true, recurses := true, apart := false, narrowed := true }
def GrabHandedUptoSaid : Prop := grabHandedUptoRow.holds Try.pinned (OpenSpec.upto grabHandedSpec)

/-- 'deadboltlaw14.GrabWaits', WHERE WHAT IT READS IS OF BULK AT MOST 1048576: true; the input reads as it did. -/
def grabWaitsUptoRow : OpenClaim := { program := "ytddgihbgdlnlbaa", sum := "4c2a428b6c66481c289961ca65798af07b5b3e677f449f5e8ba4497198c5c1ac", func := "deadbolt/deadboltlaw14.GrabWaits", spec := "grabWaits", unfollowed := true, recurses := true, apart := false, narrowed := true }
def GrabWaitsUptoSaid : Prop := grabWaitsUptoRow.holds Try.pinned (OpenSpec.upto grabWaitsSpec)

end Rows
end Go.Proofs.Ytddgihbgdlnlbaa
