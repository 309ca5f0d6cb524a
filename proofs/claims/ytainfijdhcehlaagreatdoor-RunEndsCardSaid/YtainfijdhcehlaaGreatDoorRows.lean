/-
  NARROWER THAN 'FOR EVERY INPUT', by the rows' own cells (each row's printed sentence says how): MachineHeld: laid · MachineWakes: laid · MachineHands: laid · MachineTouch: laid · MachineAlone: laid · MachineStill: laid · RunParts: laid · RunEnds: laid · RunStill: laid.
  DERIVED. THE GIVEN ROWS OF THIS SEAT. 9 by the template 'for every input the law returns true; each argument reads behind the call as it read before'; 0 by the template 'total and deterministic' (their statements: YtainfijdhcehlaaGreatDoorTotals.lean).
  GIVEN WITH THE SEED: the statements are not yours to turn. If you find one false, say at which input.
  Laid BY PROGRAM, IN A SANDBOX (cutbox-rows.mjs): the forced cells as the released guide's own fill.sh prints them over the translation f39087cc19d8fcfb… (all of the seat's roots in one cut). By AI agents, Wed Nov 11 2026. No macro, syntax, notation, axiom, sorry.
-/
import Derived.Test.YtainfijdhcehlaaGreatDoorChecked
import GoSem.Claim
import GoSem.ClaimJoined
import GoSem.ClaimMapViews
import Derived.JoinedTies
import Derived.KernelRfl
namespace Go.Proofs.YtainfijdhcehlaaGreatDoor
/- THE CELL 'sum', in the pinned program and in every row, IS THE sha256 OF THE DUMP (.gsa) THAT YtainfijdhcehlaaGreatDoorProg.lean LOADS. Nothing in Lean hashes anything: it is a label: what it is worth is what the hold of that sum in a sandbox is worth. -/
noncomputable def Tryz.pinned : Pinned := { name := "ytainfijdhcehlaagreatdoor", sum := "f39087cc19d8fcfb460417bb2cefdf74e204017b7fc386acdb4e4160cfb790f2", checked := Tryz.checked }
namespace Rows
def none {H : Type} : Left H := { results := [], args := [] }

/- WHAT THE LISTED PACKAGE-LEVEL VARIABLES READ AS WHEN THE CALL BEGINS. Each datum BY PROGRAM (the guide's laid-datum.mjs) off the statement by which the dump's own 'gosem.cut.vars' lays the variable. In a bare row this is a premise. The card (YtainfijdhcehlaaGreatDoorCards.lean) ties it to the program's text. -/
def laid_deadbolt_give_states {H : Type} : DataW H := .agg [.lit (.int .i64 0), .lit (.int .i64 3), .lit (.int .i64 1), .lit (.int .i64 3), .lit (.int .i64 2), .lit (.int .i64 3), .lit (.int .i64 2), .lit (.int .i64 3)]

/-- 'deadboltlaw16.MachineHeld': WHATEVER THE INPUT: true; the input reads as it did. -/
def machineHeldSpec : ChangeSpec := { name := "machineHeld", fn := fun _ => fun
  | [d1, d2] => { results := [.lit (.bool true)], args := [d1, d2] }
  | _ => none }
def machineHeldRow : OpenClaim := { program := "ytainfijdhcehlaagreatdoor", sum := "f39087cc19d8fcfb460417bb2cefdf74e204017b7fc386acdb4e4160cfb790f2", func := "deadbolt/deadboltlaw16.MachineHeld", spec := "machineHeld", unfollowed := true, recurses := true, named := ["deadbolt/give.states"], plainKeys := false, apart := false, laid := [("deadbolt/give.states", laid_deadbolt_give_states)] }
def MachineHeldSaid : Prop := machineHeldRow.holds Tryz.pinned (OpenSpec.ofChange machineHeldSpec)

/-- ITS FALSE NEIGHBOUR: 'it returns false'. Refute it at one input. -/
def machineHeldWrong : ChangeSpec := { name := "machineHeld", fn := fun _ => fun
  | [d1, d2] => { results := [.lit (.bool false)], args := [d1, d2] }
  | _ => none }
def MachineHeldWrongFalsely : Prop := machineHeldRow.holds Tryz.pinned (OpenSpec.ofChange machineHeldWrong)

/-- 'deadboltlaw16.MachineWakes': WHATEVER THE INPUT: true; the input reads as it did. -/
def machineWakesSpec : ChangeSpec := { name := "machineWakes", fn := fun _ => fun
  | [d1, d2] => { results := [.lit (.bool true)], args := [d1, d2] }
  | _ => none }
def machineWakesRow : OpenClaim := { program := "ytainfijdhcehlaagreatdoor", sum := "f39087cc19d8fcfb460417bb2cefdf74e204017b7fc386acdb4e4160cfb790f2", func := "deadbolt/deadboltlaw16.MachineWakes", spec := "machineWakes", unfollowed := true, recurses := true, named := ["deadbolt/give.states"], plainKeys := false, apart := false, laid := [("deadbolt/give.states", laid_deadbolt_give_states)] }
def MachineWakesSaid : Prop := machineWakesRow.holds Tryz.pinned (OpenSpec.ofChange machineWakesSpec)

/-- ITS FALSE NEIGHBOUR: 'it returns false'. Refute it at one input. -/
def machineWakesWrong : ChangeSpec := { name := "machineWakes", fn := fun _ => fun
  | [d1, d2] => { results := [.lit (.bool false)], args := [d1, d2] }
  | _ => none }
def MachineWakesWrongFalsely : Prop := machineWakesRow.holds Tryz.pinned (OpenSpec.ofChange machineWakesWrong)

/-- 'deadboltlaw16.MachineHands': WHATEVER THE INPUT: true; the input reads as it did. -/
def machineHandsSpec : ChangeSpec := { name := "machineHands", fn := fun _ => fun
  | [d1, d2] => { results := [.lit (.bool true)], args := [d1, d2] }
  | _ => none }
def machineHandsRow : OpenClaim := { program := "ytainfijdhcehlaagreatdoor", sum := "f39087cc19d8fcfb460417bb2cefdf74e204017b7fc386acdb4e4160cfb790f2", func := "deadbolt/deadboltlaw16.MachineHands", spec := "machineHands", unfollowed := true, recurses := true, named := ["deadbolt/give.states"], plainKeys := false, apart := false, laid := [("deadbolt/give.states", laid_deadbolt_give_states)] }
def MachineHandsSaid : Prop := machineHandsRow.holds Tryz.pinned (OpenSpec.ofChange machineHandsSpec)

/-- ITS FALSE NEIGHBOUR: 'it returns false'. Refute it at one input. -/
def machineHandsWrong : ChangeSpec := { name := "machineHands", fn := fun _ => fun
  | [d1, d2] => { results := [.lit (.bool false)], args := [d1, d2] }
  | _ => none }
def MachineHandsWrongFalsely : Prop := machineHandsRow.holds Tryz.pinned (OpenSpec.ofChange machineHandsWrong)

/-- 'deadboltlaw16.MachineTouch': WHATEVER THE INPUT: true; the input reads as it did. -/
def machineTouchSpec : ChangeSpec := { name := "machineTouch", fn := fun _ => fun
  | [d1, d2, d3] => { results := [.lit (.bool true)], args := [d1, d2, d3] }
  | _ => none }
def machineTouchRow : OpenClaim := { program := "ytainfijdhcehlaagreatdoor", sum := "f39087cc19d8fcfb460417bb2cefdf74e204017b7fc386acdb4e4160cfb790f2", func := "deadbolt/deadboltlaw16.MachineTouch", spec := "machineTouch", unfollowed := true, recurses := true, named := ["deadbolt/give.states"], plainKeys := false, apart := false, laid := [("deadbolt/give.states", laid_deadbolt_give_states)] }
def MachineTouchSaid : Prop := machineTouchRow.holds Tryz.pinned (OpenSpec.ofChange machineTouchSpec)

/-- ITS FALSE NEIGHBOUR: 'it returns false'. Refute it at one input. -/
def machineTouchWrong : ChangeSpec := { name := "machineTouch", fn := fun _ => fun
  | [d1, d2, d3] => { results := [.lit (.bool false)], args := [d1, d2, d3] }
  | _ => none }
def MachineTouchWrongFalsely : Prop := machineTouchRow.holds Tryz.pinned (OpenSpec.ofChange machineTouchWrong)

/-- 'deadboltlaw16.MachineAlone': WHATEVER THE INPUT: true; the input reads as it did. -/
def machineAloneSpec : ChangeSpec := { name := "machineAlone", fn := fun _ => fun
  | [d] => { results := [.lit (.bool true)], args := [d] }
  | _ => none }
def machineAloneRow : OpenClaim := { program := "ytainfijdhcehlaagreatdoor", sum := "f39087cc19d8fcfb460417bb2cefdf74e204017b7fc386acdb4e4160cfb790f2", func := "deadbolt/deadboltlaw16.MachineAlone", spec := "machineAlone", unfollowed := true, recurses := true, named := ["deadbolt/give.states"], plainKeys := false, apart := false, laid := [("deadbolt/give.states", laid_deadbolt_give_states)] }
def MachineAloneSaid : Prop := machineAloneRow.holds Tryz.pinned (OpenSpec.ofChange machineAloneSpec)

/-- ITS FALSE NEIGHBOUR: 'it returns false'. Refute it at one input. -/
def machineAloneWrong : ChangeSpec := { name := "machineAlone", fn := fun _ => fun
  | [d] => { results := [.lit (.bool false)], args := [d] }
  | _ => none }
def MachineAloneWrongFalsely : Prop := machineAloneRow.holds Tryz.pinned (OpenSpec.ofChange machineAloneWrong)

/-- 'deadboltlaw16.MachineStill': WHATEVER THE INPUT: true; the input reads as it did. -/
def machineStillSpec : ChangeSpec := { name := "machineStill", fn := fun _ => fun
  | [d1, d2, d3] => { results := [.lit (.bool true)], args := [d1, d2, d3] }
  | _ => none }
def machineStillRow : OpenClaim := { program := "ytainfijdhcehlaagreatdoor", sum := "f39087cc19d8fcfb460417bb2cefdf74e204017b7fc386acdb4e4160cfb790f2", func := "deadbolt/deadboltlaw16.MachineStill", spec := "machineStill", unfollowed := true, recurses := true, named := ["deadbolt/give.states"], plainKeys := false, apart := false, laid := [("deadbolt/give.states", laid_deadbolt_give_states)] }
def MachineStillSaid : Prop := machineStillRow.holds Tryz.pinned (OpenSpec.ofChange machineStillSpec)

/-- ITS FALSE NEIGHBOUR: 'it returns false'. Refute it at one input. -/
def machineStillWrong : ChangeSpec := { name := "machineStill", fn := fun _ => fun
  | [d1, d2, d3] => { results := [.lit (.bool false)], args := [d1, d2, d3] }
  | _ => none }
def MachineStillWrongFalsely : Prop := machineStillRow.holds Tryz.pinned (OpenSpec.ofChange machineStillWrong)

/-- 'deadboltlaw17.RunParts': WHATEVER THE INPUT: true; the input reads as it did. -/
def runPartsSpec : ChangeSpec := { name := "runParts", fn := fun _ => fun
  | [d1, d2, d3] => { results := [.lit (.bool true)], args := [d1, d2, d3] }
  | _ => none }
def runPartsRow : OpenClaim := { program := "ytainfijdhcehlaagreatdoor", sum := "f39087cc19d8fcfb460417bb2cefdf74e204017b7fc386acdb4e4160cfb790f2", func := "deadbolt/deadboltlaw17.RunParts", spec := "runParts", unfollowed := true, recurses := true, named := ["deadbolt/give.states"], plainKeys := false, apart := false, laid := [("deadbolt/give.states", laid_deadbolt_give_states)] }
def RunPartsSaid : Prop := runPartsRow.holds Tryz.pinned (OpenSpec.ofChange runPartsSpec)

/-- ITS FALSE NEIGHBOUR: 'it returns false'. Refute it at one input. -/
def runPartsWrong : ChangeSpec := { name := "runParts", fn := fun _ => fun
  | [d1, d2, d3] => { results := [.lit (.bool false)], args := [d1, d2, d3] }
  | _ => none }
def RunPartsWrongFalsely : Prop := runPartsRow.holds Tryz.pinned (OpenSpec.ofChange runPartsWrong)

/-- 'deadboltlaw17.RunEnds': WHATEVER THE INPUT: true; the input reads as it did. -/
def runEndsSpec : ChangeSpec := { name := "runEnds", fn := fun _ => fun
  | [d1, d2] => { results := [.lit (.bool true)], args := [d1, d2] }
  | _ => none }
def runEndsRow : OpenClaim := { program := "ytainfijdhcehlaagreatdoor", sum := "f39087cc19d8fcfb460417bb2cefdf74e204017b7fc386acdb4e4160cfb790f2", func := "deadbolt/deadboltlaw17.RunEnds", spec := "runEnds", unfollowed := true, recurses := true, named := ["deadbolt/give.states"], plainKeys := false, apart := false, laid := [("deadbolt/give.states", laid_deadbolt_give_states)] }
def RunEndsSaid : Prop := runEndsRow.holds Tryz.pinned (OpenSpec.ofChange runEndsSpec)

/-- ITS FALSE NEIGHBOUR: 'it returns false'. Refute it at one input. -/
def runEndsWrong : ChangeSpec := { name := "runEnds", fn := fun _ => fun
  | [d1, d2] => { results := [.lit (.bool false)], args := [d1, d2] }
  | _ => none }
def RunEndsWrongFalsely : Prop := runEndsRow.holds Tryz.pinned (OpenSpec.ofChange runEndsWrong)

/-- 'deadboltlaw17.RunStill': WHATEVER THE INPUT: true; the input reads as it did. -/
def runStillSpec : ChangeSpec := { name := "runStill", fn := fun _ => fun
  | [d1, d2] => { results := [.lit (.bool true)], args := [d1, d2] }
  | _ => none }
def runStillRow : OpenClaim := { program := "ytainfijdhcehlaagreatdoor", sum := "f39087cc19d8fcfb460417bb2cefdf74e204017b7fc386acdb4e4160cfb790f2", func := "deadbolt/deadboltlaw17.RunStill", spec := "runStill", unfollowed := true, recurses := true, named := ["deadbolt/give.states"], plainKeys := false, apart := false, laid := [("deadbolt/give.states", laid_deadbolt_give_states)] }
def RunStillSaid : Prop := runStillRow.holds Tryz.pinned (OpenSpec.ofChange runStillSpec)

/-- ITS FALSE NEIGHBOUR: 'it returns false'. Refute it at one input. -/
def runStillWrong : ChangeSpec := { name := "runStill", fn := fun _ => fun
  | [d1, d2] => { results := [.lit (.bool false)], args := [d1, d2] }
  | _ => none }
def RunStillWrongFalsely : Prop := runStillRow.holds Tryz.pinned (OpenSpec.ofChange runStillWrong)

/- THE SECOND FORM. 'bulk': how many values and letters a reading holds, each counted each time it is reached (what is shared counts as often as it is met; a slice's spare places count too). A statement '..UptoSaid' is the law's where the arguments, and the package variables that the reading takes, are together of bulk at most 1048576: NARROWER than '..Said'. Prove '..Said' where nothing that the law and all that it calls make is longer than what came in: it says more and counts as full. Else prove '..UptoSaid'. A law counts once. -/
mutual
def uptoBulk {H : Type} : DataW H → Nat
  | .lit (.string bytes) => bytes.length + 1
  | .lit _ => 1
  | .nil => 1
  | .ptr d => uptoBulk d + 1
  | .slice elems spare => uptoBulkAll elems + uptoBulkAll spare + 1
  | .agg parts => uptoBulkAll parts + 1
  | .iface _ d => uptoBulk d + 1
  | .map entries => uptoBulkEntries entries + 1
  | .held _ => 1
def uptoBulkAll {H : Type} : List (DataW H) → Nat
  | [] => 0
  | d :: r => uptoBulk d + uptoBulkAll r
def uptoBulkEntries {H : Type} : List (Lit × DataW H) → Nat
  | [] => 0
  | x :: r => uptoBulkEntry x + uptoBulkEntries r
def uptoBulkEntry {H : Type} : Lit × DataW H → Nat
  | (.string bytes, d) => bytes.length + uptoBulk d + 1
  | (_, d) => uptoBulk d + 1
 end
def uptoSmall : (H : Type) → List (DataW H) → Bool := fun _ ds => decide (uptoBulkAll ds ≤ 1048576)
def OpenSpec.upto (s : _root_.Go.ChangeSpec) : _root_.Go.OpenSpec := { _root_.Go.OpenSpec.ofChange s with cond := some uptoSmall }

/-- 'deadboltlaw16.MachineHeld', WHERE WHAT IT READS IS OF BULK AT MOST 1048576: true; the input reads as it did. -/
def machineHeldUptoRow : OpenClaim := { program := "ytainfijdhcehlaagreatdoor", sum := "f39087cc19d8fcfb460417bb2cefdf74e204017b7fc386acdb4e4160cfb790f2", func := "deadbolt/deadboltlaw16.MachineHeld", spec := "machineHeld", unfollowed := true, recurses := true, named := ["deadbolt/give.states"], plainKeys := false, apart := false, laid := [("deadbolt/give.states", laid_deadbolt_give_states)], narrowed := true }
def MachineHeldUptoSaid : Prop := machineHeldUptoRow.holds Tryz.pinned (OpenSpec.upto machineHeldSpec)

/-- 'deadboltlaw16.MachineWakes', WHERE WHAT IT READS IS OF BULK AT MOST 1048576: true; the input reads as it did. -/
def machineWakesUptoRow : OpenClaim := { program := "ytainfijdhcehlaagreatdoor", sum := "f39087cc19d8fcfb460417bb2cefdf74e204017b7fc386acdb4e4160cfb790f2", func := "deadbolt/deadboltlaw16.MachineWakes", spec := "machineWakes", unfollowed := true, recurses := true, named := ["deadbolt/give.states"], plainKeys := false, apart := false, laid := [("deadbolt/give.states", laid_deadbolt_give_states)], narrowed := true }
def MachineWakesUptoSaid : Prop := machineWakesUptoRow.holds Tryz.pinned (OpenSpec.upto machineWakesSpec)

/-- 'deadboltlaw16.MachineHands', WHERE WHAT IT READS IS OF BULK AT MOST 1048576: true; the input reads as it did. -/
def machineHandsUptoRow : OpenClaim := { program := "ytainfijdhcehlaagreatdoor", sum := "f39087cc19d8fcfb460417bb2cefdf74e204017b7fc386acdb4e4160cfb790f2", func := "deadbolt/deadboltlaw16.MachineHands", spec := "machineHands", unfollowed := true, recurses := true, named := ["deadbolt/give.states"], plainKeys := false, apart := false, laid := [("deadbolt/give.states", laid_deadbolt_give_states)], narrowed := true }
def MachineHandsUptoSaid : Prop := machineHandsUptoRow.holds Tryz.pinned (OpenSpec.upto machineHandsSpec)

/-- 'deadboltlaw16.MachineTouch', WHERE WHAT IT READS IS OF BULK AT MOST 1048576: true; the input reads as it did. -/
def machineTouchUptoRow : OpenClaim := { program := "ytainfijdhcehlaagreatdoor", sum := "f39087cc19d8fcfb460417bb2cefdf74e204017b7fc386acdb4e4160cfb790f2", func := "deadbolt/deadboltlaw16.MachineTouch", spec := "machineTouch", unfollowed := true, recurses := true, named := ["deadbolt/give.states"], plainKeys := false, apart := false, laid := [("deadbolt/give.states", laid_deadbolt_give_states)], narrowed := true }
def MachineTouchUptoSaid : Prop := machineTouchUptoRow.holds Tryz.pinned (OpenSpec.upto machineTouchSpec)

/-- 'deadboltlaw16.MachineAlone', WHERE WHAT IT READS IS OF BULK AT MOST 1048576: true; the input reads as it did. -/
def machineAloneUptoRow : OpenClaim := { program := "ytainfijdhcehlaagreatdoor", sum := "f39087cc19d8fcfb460417bb2cefdf74e204017b7fc386acdb4e4160cfb790f2", func := "deadbolt/deadboltlaw16.MachineAlone", spec := "machineAlone", unfollowed := true, recurses := true, named := ["deadbolt/give.states"], plainKeys := false, apart := false, laid := [("deadbolt/give.states", laid_deadbolt_give_states)], narrowed := true }
def MachineAloneUptoSaid : Prop := machineAloneUptoRow.holds Tryz.pinned (OpenSpec.upto machineAloneSpec)

/-- 'deadboltlaw16.MachineStill', WHERE WHAT IT READS IS OF BULK AT MOST 1048576: true; the input reads as it did. -/
def machineStillUptoRow : OpenClaim := { program := "ytainfijdhcehlaagreatdoor", sum := "f39087cc19d8fcfb460417bb2cefdf74e204017b7fc386acdb4e4160cfb790f2", func := "deadbolt/deadboltlaw16.MachineStill", spec := "machineStill", unfollowed := true, recurses := true, named := ["deadbolt/give.states"], plainKeys := false, apart := false, laid := [("deadbolt/give.states", laid_deadbolt_give_states)], narrowed := true }
def MachineStillUptoSaid : Prop := machineStillUptoRow.holds Tryz.pinned (OpenSpec.upto machineStillSpec)

/-- 'deadboltlaw17.RunParts', WHERE WHAT IT READS IS OF BULK AT MOST 1048576: true; the input reads as it did. -/
def runPartsUptoRow : OpenClaim := { program := "ytainfijdhcehlaagreatdoor", sum := "f39087cc19d8fcfb460417bb2cefdf74e204017b7fc386acdb4e4160cfb790f2", func := "deadbolt/deadboltlaw17.RunParts", spec := "runParts", unfollowed := true, recurses := true, named := ["deadbolt/give.states"], plainKeys := false, apart := false, laid := [("deadbolt/give.states", laid_deadbolt_give_states)], narrowed := true }
def RunPartsUptoSaid : Prop := runPartsUptoRow.holds Tryz.pinned (OpenSpec.upto runPartsSpec)

/-- 'deadboltlaw17.RunEnds', WHERE WHAT IT READS IS OF BULK AT MOST 1048576: true; the input reads as it did. -/
def runEndsUptoRow : OpenClaim := { program := "ytainfijdhcehlaagreatdoor", sum := "f39087cc19d8fcfb460417bb2cefdf74e204017b7fc386acdb4e4160cfb790f2", func := "deadbolt/deadboltlaw17.RunEnds", spec := "runEnds", unfollowed := true, recurses := true, named := ["deadbolt/give.states"], plainKeys := false, apart := false, laid := [("deadbolt/give.states", laid_deadbolt_give_states)], narrowed := true }
def RunEndsUptoSaid : Prop := runEndsUptoRow.holds Tryz.pinned (OpenSpec.upto runEndsSpec)

/-- 'deadboltlaw17.RunStill', WHERE WHAT IT READS IS OF BULK AT MOST 1048576: true; the input reads as it did. -/
def runStillUptoRow : OpenClaim := { program := "ytainfijdhcehlaagreatdoor", sum := "f39087cc19d8fcfb460417bb2cefdf74e204017b7fc386acdb4e4160cfb790f2", func := "deadbolt/deadboltlaw17.RunStill", spec := "runStill", unfollowed := true, recurses := true, named := ["deadbolt/give.states"], plainKeys := false, apart := false, laid := [("deadbolt/give.states", laid_deadbolt_give_states)], narrowed := true }
def RunStillUptoSaid : Prop := runStillUptoRow.holds Tryz.pinned (OpenSpec.upto runStillSpec)

end Rows
end Go.Proofs.YtainfijdhcehlaaGreatDoor
