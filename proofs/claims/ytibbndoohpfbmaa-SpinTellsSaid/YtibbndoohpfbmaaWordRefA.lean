/-
  deadboltref01: what Kind, Wrap, Fits and Add answer.
-/
import Derived.Test.YtibbndoohpfbmaaWordMath
namespace Go.Proofs.Ytibbndoohpfbmaa
open Go.ChangeShapes Go.WideShapes Go.ChangeAt Go.RowKit
set_option linter.unusedVariables false

theorem rem32 (v : Int) : (wrap64 (v.tmod 4294967296 + 4294967296)).tmod 4294967296 = v % 4294967296 := by
  have h1 : -4294967296 < v.tmod 4294967296 := Int.lt_tmod_of_pos v (by omega)
  have h2 : v.tmod 4294967296 < 4294967296 := Int.tmod_lt_of_pos v (by omega)
  rw [show wrap64 (v.tmod 4294967296 + 4294967296) = v.tmod 4294967296 + 4294967296 from by unfold wrap64; omega, Int.tmod_eq_emod_of_nonneg (by omega), Int.add_emod_right]
  have h3 := Int.tmod_add_mul_tdiv v 4294967296
  omega

set_option maxHeartbeats 400000 in
theorem rKind_yes (k : Int) (w : World) (hk : 0 ≤ k ∧ k ≤ 2) : Calls Try.prog 32 #[.int .i64 k] w fun e w' => e = .returned (.bool true) ∧ w' = w := by
  obtain ⟨h1, h2⟩ := hk
  go_enter Try.func32, Try.ntmps32
  go_wp2
  go_ret
  exact ⟨rfl, rfl⟩
set_option maxHeartbeats 400000 in
theorem rKind_no (k : Int) (w : World) (hk : k < 0 ∨ 2 < k) : Calls Try.prog 32 #[.int .i64 k] w fun e w' => e = .returned (.bool false) ∧ w' = w := by
  rcases hk with h | h
  · have h1 : ¬ 0 ≤ k := by omega
    go_enter Try.func32, Try.ntmps32
    go_wp2
    go_ret
    exact ⟨rfl, rfl⟩
  · have h1 : 0 ≤ k := by omega
    have h2 : ¬ k ≤ 2 := by omega
    go_enter Try.func32, Try.ntmps32
    go_wp2
    go_ret
    exact ⟨rfl, rfl⟩
set_option maxHeartbeats 400000 in
theorem rWrap_2 (v : Int) (w : World) : Calls Try.prog 27 #[.int .i64 2, .int .i64 v] w fun e w' => e = .returned (.int .i64 (wd 2 v)) ∧ w' = w := by
  go_enter Try.func27, Try.ntmps27
  go_wp2
  go_ret
  exact ⟨rfl, rfl⟩
set_option maxHeartbeats 400000 in
theorem rWrap_1 (v : Int) (w : World) : Calls Try.prog 27 #[.int .i64 1, .int .i64 v] w fun e w' => e = .returned (.int .i64 (wd 1 v)) ∧ w' = w := by
  have hr := rem32 v
  go_enter Try.func27, Try.ntmps27
  go_wp2
  go_ret
  exact ⟨rfl, rfl⟩
set_option maxHeartbeats 400000 in
theorem rWrap_0 (v : Int) (w : World) : Calls Try.prog 27 #[.int .i64 0, .int .i64 v] w fun e w' => e = .returned (.int .i64 (wd 0 v)) ∧ w' = w := by
  have hr := rem32 v
  by_cases h : 2147483648 ≤ v % 4294967296
  · go_enter Try.func27, Try.ntmps27
    go_wp2
    go_ret
    exact ⟨ret_i64 (by unfold wd wrap32; rw [if_pos rfl]; omega), rfl⟩
  · go_enter Try.func27, Try.ntmps27
    go_wp2
    go_ret
    exact ⟨ret_i64 (by unfold wd wrap32; rw [if_pos rfl]; omega), rfl⟩
theorem rWrap_ok (k v : Int) (w : World) (hk : 0 ≤ k ∧ k ≤ 2) : Calls Try.prog 27 #[.int .i64 k, .int .i64 v] w fun e w' => e = .returned (.int .i64 (wd k v)) ∧ w' = w := by
  obtain rfl | rfl | rfl : k = 0 ∨ k = 1 ∨ k = 2 := by omega
  · exact rWrap_0 v w
  · exact rWrap_1 v w
  · exact rWrap_2 v w
set_option maxHeartbeats 400000 in
theorem rFits_ok (k v : Int) (w : World) : Calls Try.prog 26 #[.int .i64 k, .int .i64 v] w fun e w' => e = .returned (.bool (fitB k v)) ∧ w' = w := by
  by_cases hk : 0 ≤ k ∧ k ≤ 2
  · have hf : fitB k v = (wd k v == v) := by simp [fitB, hk]
    have HF := Lib.hid hf
    clear hf
    go_enter Try.func26, Try.ntmps26
    go_wp2_with fail
    refine (rKind_yes k _ hk).mono ?_
    rintro e w1 ⟨rfl, rfl⟩
    go_wp2_with fail
    refine (rWrap_ok k v _ hk).mono ?_
    rintro e w2 ⟨rfl, rfl⟩
    go_wp2_with fail
    go_ret
    rw [HF.out]
    exact ⟨rfl, rfl⟩
  · have hf : fitB k v = false := by simp [fitB, hk]
    have HF := Lib.hid hf
    clear hf
    go_enter Try.func26, Try.ntmps26
    go_wp2_with fail
    refine (rKind_no k _ (by omega)).mono ?_
    rintro e w1 ⟨rfl, rfl⟩
    go_wp2_with fail
    go_ret
    rw [HF.out]
    exact ⟨rfl, rfl⟩

theorem add2 (a b : Int) : wrap64 (IntKind.u64.wrap (IntKind.u64.wrap a + IntKind.u64.wrap b)) = wd 2 (wrap64 (a + b)) := by
  simp only [IntKind.wrap_u64, wrap64, wd]; omega
theorem add01 (k a b : Int) : wd k (wrap64 (wd k a + wd k b)) = wd k (wrap64 (a + b)) := by rw [wd_left, wd_right]
set_option maxHeartbeats 400000 in
theorem rAdd_ok (k a b : Int) (w : World) (hk : 0 ≤ k ∧ k ≤ 2) : Calls Try.prog 28 #[.int .i64 k, .int .i64 a, .int .i64 b] w fun e w' => e = .returned (.int .i64 (wd k (wrap64 (a + b)))) ∧ w' = w := by
  by_cases h2 : k = 2
  · subst h2
    go_enter Try.func28, Try.ntmps28
    go_wp2
    go_ret
    exact ⟨ret_i64 (add2 a b), rfl⟩
  · have h3 : (k == 2) = false := beq_eq_false_iff_ne.2 h2
    go_enter Try.func28, Try.ntmps28
    go_wp2_with fail
    refine (rWrap_ok k a _ hk).mono ?_
    rintro e w1 ⟨rfl, rfl⟩
    go_wp2_with fail
    refine (rWrap_ok k b _ hk).mono ?_
    rintro e w1 ⟨rfl, rfl⟩
    go_wp2_with fail
    have h4 := add01 k a b
    generalize wd k a = A at *
    generalize wd k b = B at *
    have H4 := Lib.hid h4
    clear h4
    refine (rWrap_ok k (wrap64 (A + B)) _ hk).mono ?_
    rw [H4.out]
    rintro e w1 ⟨rfl, rfl⟩
    go_wp2_with fail
    go_ret
    exact ⟨rfl, rfl⟩
end Go.Proofs.Ytibbndoohpfbmaa
