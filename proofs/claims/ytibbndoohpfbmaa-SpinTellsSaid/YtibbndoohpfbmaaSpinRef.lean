/-
  Package spin: Can; deadboltref06.
-/
import Derived.Test.YtibbndoohpfbmaaSpinMath
import Derived.Test.YtibbndoohpfbmaaWordRefA
namespace Go.Proofs.Ytibbndoohpfbmaa
open Go.ChangeShapes Go.WideShapes Go.ChangeAt Go.RowKit
set_option linter.unusedVariables false

set_option maxHeartbeats 1000000 in
theorem Can_no {a b : Int} (h : a < 0 ∨ b < 0) (w : World) :
    Calls Try.prog 6 #[.int .i64 a, .int .i64 b] w fun e w' => e = .returned (.tuple #[.bool false, .int .i64 1]) ∧ w' = w := by
  obtain ⟨M, hM⟩ : ∃ M, (if b < a then b else a) = M := ⟨_, rfl⟩
  have h0 : M < 0 := by rw [← hM]; split <;> omega
  clear h
  go_enter Try.func6, Try.ntmps6
  go_wp2_with fail
  go_ret2
  exact ⟨rfl, rfl⟩
set_option maxHeartbeats 1000000 in
theorem Can_few {a b : Int} (h : ¬ (a < 0 ∨ b < 0)) (h4 : a < 4) {v : Bool} (hv : decide (1 < b) = v) (w : World) :
    Calls Try.prog 6 #[.int .i64 a, .int .i64 b] w fun e w' => e = .returned (.tuple #[.bool v, .int .i64 0]) ∧ w' = w := by
  obtain ⟨M, hM⟩ : ∃ M, (if b < a then b else a) = M := ⟨_, rfl⟩
  have h0 : ¬ M < 0 := by rw [← hM]; split <;> omega
  clear h
  go_enter Try.func6, Try.ntmps6
  go_wp2_with fail
  go_ret2
  exact ⟨rfl, rfl⟩
set_option maxHeartbeats 1000000 in
theorem Can_many {a b : Int} (h : ¬ (a < 0 ∨ b < 0)) (h4 : ¬ a < 4) (w : World) :
    Calls Try.prog 6 #[.int .i64 a, .int .i64 b] w fun e w' => e = .returned (.tuple #[.bool false, .int .i64 0]) ∧ w' = w := by
  obtain ⟨M, hM⟩ : ∃ M, (if b < a then b else a) = M := ⟨_, rfl⟩
  have h0 : ¬ M < 0 := by rw [← hM]; split <;> omega
  clear h
  go_enter Try.func6, Try.ntmps6
  go_wp2_with fail
  go_ret2
  exact ⟨rfl, rfl⟩
set_option maxHeartbeats 1000000 in
theorem rCan_few {a b : Int} (h4 : a < 4) {v : Bool} (hv : decide (1 < b) = v) (w : World) :
    Calls Try.prog 14 #[.int .i64 a, .int .i64 b] w fun e w' => e = .returned (.bool v) ∧ w' = w := by
  go_enter Try.func14, Try.ntmps14
  go_wp2_with fail
  go_ret
  exact ⟨rfl, rfl⟩
set_option maxHeartbeats 1000000 in
theorem rCan_many {a b : Int} (h4 : ¬ a < 4) (w : World) :
    Calls Try.prog 14 #[.int .i64 a, .int .i64 b] w fun e w' => e = .returned (.bool false) ∧ w' = w := by
  go_enter Try.func14, Try.ntmps14
  go_wp2_with fail
  go_ret
  exact ⟨rfl, rfl⟩

set_option maxHeartbeats 1000000 in
theorem rRight_is {n s : Int} {r : Bool} (hr : tkB n s = r) (w : World) :
    Calls Try.prog 12 #[.agg #[.int .i64 n, .int .i64 s]] w fun e w' => e = .returned (.bool r) ∧ Gr w w' := by
  obtain ⟨a, ha⟩ : ∃ a, fitB 1 n = a := ⟨_, rfl⟩
  obtain ⟨b, hb⟩ : ∃ b, fitB 1 s = b := ⟨_, rfl⟩
  unfold tkB at hr
  rw [ha, hb] at hr
  subst hr
  have c1 := fun w => Lib.hid (ha ▸ rFits_ok 1 n w)
  have c2 := fun w => Lib.hid (hb ▸ rFits_ok 1 s w)
  clear ha hb
  cases a
  · go_enter Try.func12, Try.ntmps12
    go_wp2_with fail
    refine (c1 _).out.mono ?_
    rintro e w1 ⟨rfl, rfl⟩
    go_wp2_with fail
    go_ret
    exact ⟨rfl, (Gr.refl w).al _⟩
  · go_enter Try.func12, Try.ntmps12
    go_wp2_with fail
    refine (c1 _).out.mono ?_
    rintro e w1 ⟨rfl, rfl⟩
    go_wp2_with fail
    refine (c2 _).out.mono ?_
    rintro e w2 ⟨rfl, rfl⟩
    go_wp2_with fail
    go_ret
    exact ⟨rfl, (Gr.refl w).al _⟩
set_option maxHeartbeats 1000000 in
theorem rOut_is {n s r : Int} (hr : outT n s = r) (w : World) :
    Calls Try.prog 15 #[.agg #[.int .i64 n, .int .i64 s]] w fun e w' => e = .returned (.int .i64 r) ∧ Gr w w' := by
  have c1 := fun w => Lib.hid (show Calls Try.prog 27 #[.int .i64 1, .int .i64 (wrap64 (n - s))] w fun e w' => e = .returned (.int .i64 r) ∧ w' = w from hr ▸ rWrap_ok 1 (wrap64 (n - s)) w (by omega))
  clear hr
  go_enter Try.func15, Try.ntmps15
  go_wp2_with fail
  refine (c1 _).out.mono ?_
  rintro e w1 ⟨rfl, rfl⟩
  go_wp2_with fail
  go_ret
  exact ⟨rfl, (Gr.refl w).al _⟩
set_option maxHeartbeats 1000000 in
theorem rDraw_is {n s x : Int} (hx : up1 n = x) (w : World) :
    Calls Try.prog 16 #[.agg #[.int .i64 n, .int .i64 s]] w fun e w' => e = .returned (.tuple #[.agg #[.int .i64 x, .int .i64 s], .int .i64 n]) ∧ Gr w w' := by
  have c1 := fun w => Lib.hid (show Calls Try.prog 28 #[.int .i64 1, .int .i64 n, .int .i64 1] w fun e w' => e = .returned (.int .i64 x) ∧ w' = w from hx ▸ rAdd_ok 1 n 1 w (by omega))
  clear hx
  go_enter Try.func16, Try.ntmps16
  go_wp2_with fail
  refine (c1 _).out.mono ?_
  rintro e w1 ⟨rfl, rfl⟩
  go_wp2_with fail
  refine bodyPost_ret (v := .tuple #[.agg #[.int .i64 x, .int .i64 s], .int .i64 n]) (by simp [results, Try.results16, go_sem]) rfl ⟨rfl, ?_⟩
  repeat (first | exact Gr.refl _ | refine Gr.st ?_ (by simp) _ | refine Gr.al ?_ _ | refine Gr.dr ?_)
set_option maxHeartbeats 1000000 in
theorem rDone_is {n s x : Int} (hx : up1 s = x) (w : World) :
    Calls Try.prog 17 #[.agg #[.int .i64 n, .int .i64 s]] w fun e w' => e = .returned (.agg #[.int .i64 n, .int .i64 x]) ∧ Gr w w' := by
  have c1 := fun w => Lib.hid (show Calls Try.prog 28 #[.int .i64 1, .int .i64 s, .int .i64 1] w fun e w' => e = .returned (.int .i64 x) ∧ w' = w from hx ▸ rAdd_ok 1 s 1 w (by omega))
  clear hx
  go_enter Try.func17, Try.ntmps17
  go_wp2_with fail
  refine (c1 _).out.mono ?_
  rintro e w1 ⟨rfl, rfl⟩
  go_wp2_with fail
  refine bodyPost_ret (v := .agg #[.int .i64 n, .int .i64 x]) (by simp [results, Try.results17, go_sem]) rfl ⟨rfl, ?_⟩
  repeat (first | exact Gr.refl _ | refine Gr.st ?_ (by simp) _ | refine Gr.al ?_ _ | refine Gr.dr ?_)
end Go.Proofs.Ytibbndoohpfbmaa
