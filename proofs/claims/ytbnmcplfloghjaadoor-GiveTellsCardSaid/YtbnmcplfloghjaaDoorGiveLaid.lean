/-
  The start: what the listed variable (the array of states) holds, and a world in which it does.
-/
import Derived.Test.YtbnmcplfloghjaaDoorGive
namespace Go.Proofs.YtbnmcplfloghjaaDoor
open Go.ChangeShapes Go.WideShapes Go.ChangeAt Go.RowKit Go.Joins
set_option linter.unusedVariables false
namespace P15

/-- The row's list. -/
def laidL : List (String × DataW Unit) := [("deadbolt/give.states", Rows.laid_deadbolt_give_states)]
set_option maxRecDepth 100000 in
theorem laidL_shaped (os : Os) (args : Array Value) : ((World.laidAll Tryd.prog os laidL).forCall (fun _ _ => 0) ⟨#[], args, []⟩).Shaped Tryd.prog :=
  World.shaped_of_ZipB (by kernel_rfl) (by kernel_rfl)
set_option maxRecDepth 100000 in
theorem laidL_met (os : Os) (args : Array Value) : laidMetH Tryd.prog laidL ((World.laidAll Tryd.prog os laidL).forCall (fun _ _ => 0) ⟨#[], args, []⟩).memory := by
  rw [MakeChecks.laidMetH_plain _ _ _ (by kernel_rfl)]
  exact laidMet_laidAll _ (by kernel_rfl) (by kernel_rfl)
section
variable {W : World}
theorem metL (h : laidMetH Tryd.prog laidL W) : laidMet Tryd.prog laidL W := by
  rwa [MakeChecks.laidMetH_plain _ _ _ (by kernel_rfl)] at h
/-- An array of eight numbers, as a list's head says. -/
theorem states_of {rest : List (String × DataW Unit)} (h : laidMet Tryd.prog (("deadbolt/give.states", Rows.laid_deadbolt_give_states) :: rest) W) : Glob W := by
  obtain ⟨ps, ⟨g, t, cs, fuel, p, q, hg, ht, hv, hd, _, _⟩, _⟩ := h
  obtain rfl := Option.some.inj ((show Tryd.prog.globalNamed "deadbolt/give.states" = some 0 by kernel_rfl).symm.trans hg)
  obtain rfl := Option.some.inj ((show (Tryd.prog.globals[0]?).map (·.type) = some 40 by kernel_rfl).symm.trans ht)
  obtain ⟨xs, m, _, ex, hcl, hl, hel⟩ := DataW.trod_array Tryd.underlying40 hd
  have c1 : Tryd.prog.cellsOf 3 = 1 := by kernel_rfl
  have c8 : Tryd.prog.cellsOf 40 = 8 := by kernel_rfl
  rw [c8] at hcl
  rw [c1] at hel
  have e3 : xs.map (·.1) = [.lit (.int .i64 0), .lit (.int .i64 3), .lit (.int .i64 1), .lit (.int .i64 3), .lit (.int .i64 2), .lit (.int .i64 3), .lit (.int .i64 2), .lit (.int .i64 3)] := (DataW.agg.inj (Prod.mk.inj ex).1).symm
  have each : ∀ i (z : Int), i < 8 → (xs.map (·.1))[i]? = some (.lit (.int .i64 z)) → cs.toList[i]? = some (.int .i64 z) := by
    intro i z hi hb
    have hE := hel i hi
    rw [List.getElem?_eq_getElem (by omega)] at hE
    obtain ⟨s, e1, e2, _⟩ := DataW.trod_int Tryd.underlying3 hE
    rw [List.getElem?_map, List.getElem?_eq_getElem (by omega : i < xs.length), e2] at hb
    simp only [Option.map_some, Option.some.injEq, DataW.lit.injEq, Lit.int.injEq, true_and] at hb
    rw [← hb]
    have h0 : ((cs.toList.drop (i * 1)).take 1)[0]? = some (.int .i64 s) := by rw [e1]; rfl
    simpa using h0
  unfold Glob
  rw [hv]
  refine congrArg some (Array.ext' (List.ext_getElem? fun i => ?_))
  match i with
  | 0 => exact each 0 _ (by omega) (by rw [e3]; rfl)
  | 1 => exact each 1 _ (by omega) (by rw [e3]; rfl)
  | 2 => exact each 2 _ (by omega) (by rw [e3]; rfl)
  | 3 => exact each 3 _ (by omega) (by rw [e3]; rfl)
  | 4 => exact each 4 _ (by omega) (by rw [e3]; rfl)
  | 5 => exact each 5 _ (by omega) (by rw [e3]; rfl)
  | 6 => exact each 6 _ (by omega) (by rw [e3]; rfl)
  | 7 => exact each 7 _ (by omega) (by rw [e3]; rfl)
  | n + 8 =>
    rw [List.getElem?_eq_none (by omega), List.getElem?_eq_none (by simp)]
theorem globL (h : laidMetH Tryd.prog laidL W) (hs : W.ShapedOpen Tryd.prog) : Glob W := states_of (metL h)
end
end P15
end Go.Proofs.YtbnmcplfloghjaaDoor
