/-
  Package give: what the array of states holds; state, Left, Wakes.
-/
import Derived.Test.YtbnmcplfloghjaaDoorFlagsBits
import Derived.Test.YtbnmcplfloghjaaDoorLaidWrap
import Derived.Lib.Hide
namespace Go.Proofs.YtbnmcplfloghjaaDoor
open Go.ChangeShapes Go.WideShapes Go.ChangeAt Go.RowKit
set_option linter.unusedVariables false
set_option linter.unusedSimpArgs false
namespace P15
open P3 (fl pw lowI)

/-- What the call's world holds: the array of states. -/
def Glob (w : World) : Prop := w.var? Tryd.prog "deadbolt/give.states" = some #[.int .i64 0, .int .i64 3, .int .i64 1, .int .i64 3, .int .i64 2, .int .i64 3, .int .i64 2, .int .i64 3]
theorem Glob.gr {w w' : World} (h : Glob w) (g : Gr w w') : Glob w' :=
  Joins.var_stays (by kernel_rfl : Tryd.prog.globalNamed "deadbolt/give.states" = some 0) h g (Nat.le_refl _)
/-- What a word tells of its mutex. -/
def st (a b c : Bool) : Int := if a then 3 else if c then 2 else if b then 1 else 0
theorem Glob.at_ {w : World} (h : Glob w) (a b c : Bool) : w.cell? ⟨0, (lowI a b c).toNat, none⟩ = some (.int .i64 (st a b c)) := by
  have hn : Tryd.prog.globalNamed "deadbolt/give.states" = some 0 := by kernel_rfl
  have hc := World.var?_cell hn h
  cases a <;> cases b <;> cases c
  · exact hc 0
  · exact hc 4
  · exact hc 2
  · exact hc 6
  · exact hc 1
  · exact hc 5
  · exact hc 3
  · exact hc 7
theorem low_in (a b c : Bool) : 0 ≤ lowI a b c ∧ lowI a b c < 8 := by cases a <;> cases b <;> cases c <;> decide

section
variable {a b c : Bool} {n v : Int} {w : World}
set_option maxHeartbeats 1000000 in
theorem state_of (hg : Glob w) (hv : bits .and .i64 v 7 = lowI a b c) :
    Calls Tryd.prog 12 #[.int .i64 v] w fun e w' => e = .returned (.int .i64 (st a b c)) ∧ w' = w := by
  have h0 := hg.at_ a b c
  obtain ⟨h1, h2⟩ := low_in a b c
  generalize lowI a b c = k at *
  go_enter Tryd.func12, Tryd.ntmps12
  go_wp2_with fail
  go_ret
  exact ⟨rfl, rfl⟩
end
end P15
end Go.Proofs.YtbnmcplfloghjaaDoor
