/-
  Package spin: what Can answers; deadboltref06's Can (taken out of stage 6's text).
-/
import Derived.Test.YtddgihbgdlnlbaaBase
import Derived.Deep.QuietTactic
namespace Go.Proofs.Ytddgihbgdlnlbaa
open Go.ChangeShapes Go.WideShapes Go.ChangeAt Go.RowKit
set_option linter.unusedVariables false

namespace P6
set_option maxHeartbeats 1000000 in
theorem Can_no {a b : Int} (h : a < 0 ∨ b < 0) (w : World) :
    Calls Try.prog 35 #[.int .i64 a, .int .i64 b] w fun e w' => e = .returned (.tuple #[.bool false, .int .i64 1]) ∧ w' = w := by
  obtain ⟨M, hM⟩ : ∃ M, (if b < a then b else a) = M := ⟨_, rfl⟩
  have h0 : M < 0 := by rw [← hM]; split <;> omega
  clear h
  go_enter Try.func35, Try.ntmps35
  go_wp2_with fail
  go_ret2
  exact ⟨rfl, rfl⟩
set_option maxHeartbeats 1000000 in
theorem Can_few {a b : Int} (h : ¬ (a < 0 ∨ b < 0)) (h4 : a < 4) {v : Bool} (hv : decide (1 < b) = v) (w : World) :
    Calls Try.prog 35 #[.int .i64 a, .int .i64 b] w fun e w' => e = .returned (.tuple #[.bool v, .int .i64 0]) ∧ w' = w := by
  obtain ⟨M, hM⟩ : ∃ M, (if b < a then b else a) = M := ⟨_, rfl⟩
  have h0 : ¬ M < 0 := by rw [← hM]; split <;> omega
  clear h
  go_enter Try.func35, Try.ntmps35
  go_wp2_with fail
  go_ret2
  exact ⟨rfl, rfl⟩
set_option maxHeartbeats 1000000 in
theorem Can_many {a b : Int} (h : ¬ (a < 0 ∨ b < 0)) (h4 : ¬ a < 4) (w : World) :
    Calls Try.prog 35 #[.int .i64 a, .int .i64 b] w fun e w' => e = .returned (.tuple #[.bool false, .int .i64 0]) ∧ w' = w := by
  obtain ⟨M, hM⟩ : ∃ M, (if b < a then b else a) = M := ⟨_, rfl⟩
  have h0 : ¬ M < 0 := by rw [← hM]; split <;> omega
  clear h
  go_enter Try.func35, Try.ntmps35
  go_wp2_with fail
  go_ret2
  exact ⟨rfl, rfl⟩
set_option maxHeartbeats 1000000 in
theorem rCan_few {a b : Int} (h4 : a < 4) {v : Bool} (hv : decide (1 < b) = v) (w : World) :
    Calls Try.prog 47 #[.int .i64 a, .int .i64 b] w fun e w' => e = .returned (.bool v) ∧ w' = w := by
  go_enter Try.func47, Try.ntmps47
  go_wp2_with fail
  go_ret
  exact ⟨rfl, rfl⟩
set_option maxHeartbeats 1000000 in
theorem rCan_many {a b : Int} (h4 : ¬ a < 4) (w : World) :
    Calls Try.prog 47 #[.int .i64 a, .int .i64 b] w fun e w' => e = .returned (.bool false) ∧ w' = w := by
  go_enter Try.func47, Try.ntmps47
  go_wp2_with fail
  go_ret
  exact ⟨rfl, rfl⟩

end P6
end Go.Proofs.Ytddgihbgdlnlbaa
