/-
  Package clock: what nearest, right and Right answer (taken out of stage 4's text, in a namespace of its own, for programs that stand on clock).
-/
import Derived.Test.YtddgihbgdlnlbaaBase
import Derived.Deep.QuietTactic
import Derived.BigQuiet
import Derived.Outline
import Derived.Laws.StructEq
import Derived.ChangeKeysEq
import Derived.Deep.RegionHeld3
import Derived.RegionTactic
namespace Go.Proofs.Ytddgihbgdlnlbaa
open Go.ChangeShapes Go.WideShapes Go.ChangeAt Go.RowKit
set_option linter.unusedVariables false

namespace P4

/-- Two numbers, as the program hands them on. -/
abbrev pr (a b : Int) : Value := .agg #[.int .i64 a, .int .i64 b]
/-- The time closest to a number. -/
def near (t : Int) : Int := max 0 (min t 4611686018427387904)
/-- A time. -/
def Tm (t : Int) : Prop := 0 ≤ t ∧ t ≤ 4611686018427387904
theorem near_eq {t : Int} (h : Tm t) : near t = t := by unfold Tm at h; unfold near; omega
theorem near_ne {t : Int} (h : ¬ Tm t) : (t == near t) = false := by unfold Tm at h; rw [beq_eq_false_iff_ne]; unfold near; omega

set_option maxHeartbeats 1000000 in
theorem nearest_ok (t : Int) (w : World) : Calls Try.prog 71 #[.int .i64 t] w fun e w' => e = .returned (.int .i64 (near t)) ∧ w' = w := by
  obtain ⟨x, hx⟩ : ∃ x, near t = x := ⟨_, rfl⟩
  have HX := Lib.hid hx
  rw [hx]
  clear hx
  go_enter Try.func71, Try.ntmps71
  go_wp2_with fail
  all_goals (
    go_ret
    refine ⟨?_, rfl⟩
    show Ending.returned (Value.int .i64 _) = Ending.returned (Value.int .i64 x)
    refine congrArg _ (congrArg _ ?_)
    have hx := HX.out
    unfold near at hx
    omega)
/-- Whether two pairs are the same. -/
def prEq (a b a' b' : Int) : Bool := decide (a = a' ∧ b = b')
theorem cellsOfInt : Try.prog.cellsOf 3 = 1 := by kernel_rfl
theorem plainInt : Try.prog.plainKey 3 = true := by kernel_rfl
theorem infoInt : ∃ i, Try.prog.info? 3 = some i := Option.isSome_iff_exists.1 (by kernel_rfl)
theorem run_pair_eql (a b a' b' : Int) (w : World) :
    (binOp .eql 74 (.agg #[.int .i64 a, .int .i64 b]) (.agg #[.int .i64 a', .int .i64 b'])).run Try.prog w = .ok (.bool (prEq a b a' b')) w := by
  obtain ⟨i, hi⟩ := infoInt
  have e1 : (part 3 #[.int .i64 a, .int .i64 b] (0 * 1)).run Try.prog w = .ok (.int .i64 a) w := run_part_plain w plainInt rfl
  have e2 : (part 3 #[.int .i64 a, .int .i64 b] (1 * 1)).run Try.prog w = .ok (.int .i64 b) w := run_part_plain w plainInt rfl
  have e3 : (part 3 #[.int .i64 a', .int .i64 b'] (0 * 1)).run Try.prog w = .ok (.int .i64 a') w := run_part_plain w plainInt rfl
  have e4 : (part 3 #[.int .i64 a', .int .i64 b'] (1 * 1)).run Try.prog w = .ok (.int .i64 b') w := run_part_plain w plainInt rfl
  have e5 : (Op.equalIn 9999 3 (.int .i64 a) (.int .i64 a')).run Try.prog w = .ok (a == a') w := run_equalIn_int w 9998 3 .i64 .i64 a a' Try.underlying3
  have e6 : (Op.equalIn 9999 3 (.int .i64 b) (.int .i64 b')).run Try.prog w = .ok (b == b') w := run_equalIn_int w 9998 3 .i64 .i64 b b' Try.underlying3
  rw [run_eql_struct, run_equalIn_array w 9999 _ _ Try.underlying74 hi, cellsOfInt]
  show ((Op.eqItems 9999 3 1 _ _ [0, 1]).run Try.prog w).andThen _ = _
  rw [Op.eqItems, Sem.run_bind, e1, Result.andThen_ok, Sem.run_bind, e3, Result.andThen_ok, Sem.run_bind, e5, Result.andThen_ok]
  by_cases h1 : a = a'
  · rw [if_neg (by simp [h1]), Op.eqItems, Sem.run_bind, e2, Result.andThen_ok, Sem.run_bind, e4, Result.andThen_ok, Sem.run_bind, e6, Result.andThen_ok]
    by_cases h2 : b = b'
    · rw [if_neg (by simp [h2])]
      simp [prEq, h1, h2, Op.eqItems]
    · rw [if_pos (by simp [h2])]
      simp [prEq, h2]
  · rw [if_pos (by simp [h1])]
    simp [prEq, h1]
/-- Whether both are times. -/
def both (a b : Int) : Bool := prEq a b (near a) (near b)
theorem both_yes {a b : Int} (ha : Tm a) (hb : Tm b) : both a b = true := by unfold both; rw [near_eq ha, near_eq hb]; simp [prEq]
theorem both_no {a b : Int} (h : ¬ (Tm a ∧ Tm b)) : both a b = false := by
  unfold both prEq Tm at *
  rw [decide_eq_false_iff_not]
  unfold near
  omega
set_option maxHeartbeats 1000000 in
theorem right_ok (a b : Int) (w : World) : Calls Try.prog 73 #[pr a b] w fun e w' => e = .returned (.bool (both a b)) ∧ Gr w w' := by
  have he := fun w => run_pair_eql a b (near a) (near b) w
  go_enter Try.func73, Try.ntmps73
  go_wp2_with fail
  go_quiet ((go_at_call 71; exact Calls.quiet_of_same (nearest_ok _ _)))
  go_wp2_with fail
  go_ret
  exact ⟨rfl, ((Gr.refl _).al _).drN _⟩

set_option maxHeartbeats 1000000 in
theorem Right_ok (t : Int) (B : Bool) (hB : (t == near t) = B) (w : World) : Calls Try.prog 60 #[.int .i64 t] w fun e w' => e = .returned (.bool B) ∧ Gr w w' := by
  go_enter Try.func60, Try.ntmps60
  go_wp2_with fail
  refine (nearest_ok _ _).mono ?_
  rintro e w1 ⟨rfl, rfl⟩
  go_wp2_with fail
  go_ret
  exact ⟨rfl, Gr.refl _⟩

end P4
end Go.Proofs.Ytddgihbgdlnlbaa
