/-
  Package word: what its calls answer (contracts over the translation).
-/
import Derived.Test.YtibbndoohpfbmaaBase
namespace Go.Proofs.Ytibbndoohpfbmaa
open Go.ChangeShapes Go.WideShapes Go.ChangeAt Go.RowKit
set_option linter.unusedVariables false

/-- A number as a word of a kind 0, 1 or 2. -/
def wd (k v : Int) : Int := if k = 0 then wrap32 v else if k = 1 then v % 4294967296 else v

set_option maxHeartbeats 400000 in
theorem shapeOf_0 (w : World) : Calls Try.prog 29 #[.int .i64 0] w fun e w' => e = .returned (.agg #[.int .i64 32, .bool true]) ∧ Gr w w' := by
  go_enter Try.func29, Try.ntmps29
  go_wp2
  exact bodyPost_ret (v := .agg #[.int .i64 32, .bool true]) (by simp [results, Try.results29, go_sem]) rfl ⟨rfl, ((Gr.refl _).al _).al _⟩
set_option maxHeartbeats 400000 in
theorem shapeOf_1 (w : World) : Calls Try.prog 29 #[.int .i64 1] w fun e w' => e = .returned (.agg #[.int .i64 32, .bool false]) ∧ Gr w w' := by
  go_enter Try.func29, Try.ntmps29
  go_wp2
  exact bodyPost_ret (v := .agg #[.int .i64 32, .bool false]) (by simp [results, Try.results29, go_sem]) rfl ⟨rfl, ((Gr.refl _).al _).al _⟩
set_option maxHeartbeats 400000 in
theorem shapeOf_2 (w : World) : Calls Try.prog 29 #[.int .i64 2] w fun e w' => e = .returned (.agg #[.int .i64 64, .bool true]) ∧ Gr w w' := by
  go_enter Try.func29, Try.ntmps29
  go_wp2
  exact bodyPost_ret (v := .agg #[.int .i64 64, .bool true]) (by simp [results, Try.results29, go_sem]) rfl ⟨rfl, ((Gr.refl _).al _).al _⟩
set_option maxHeartbeats 400000 in
theorem shapeOf_no (k : Int) (w : World) (hk : k < 0 ∨ 2 < k) : Calls Try.prog 29 #[.int .i64 k] w fun e w' => e = .returned (.agg #[.int .i64 0, .bool false]) ∧ Gr w w' := by
  have h0 : (k == 0) = false := beq_eq_false_iff_ne.2 (by omega)
  have h1 : (k == 1) = false := beq_eq_false_iff_ne.2 (by omega)
  have h2 : (k == 2) = false := beq_eq_false_iff_ne.2 (by omega)
  clear hk
  go_enter Try.func29, Try.ntmps29
  go_wp2
  exact bodyPost_ret (v := .agg #[.int .i64 0, .bool false]) (by simp [results, Try.results29, go_sem]) rfl ⟨rfl, ((Gr.refl _).al _).al _⟩

theorem wrapA (v : Int) : wrap64 (v * 4294967296) / 4294967296 = wrap32 v := by unfold wrap64 wrap32; omega
theorem wrapB (v : Int) : wrap64 (IntKind.u64.wrap (IntKind.u64.wrap v * 4294967296) / 4294967296) = v % 4294967296 := by
  simp only [IntKind.wrap_u64, wrap64]; omega
theorem ret_i64 {a b : Int} (h : a = b) : Ending.returned (.int .i64 a) = .returned (.int .i64 b) := by rw [h]

set_option maxHeartbeats 400000 in
theorem swrap_0 (v : Int) (w : World) : Calls Try.prog 30 #[.agg #[.int .i64 32, .bool true], .int .i64 v] w fun e w' => e = .returned (.int .i64 (wd 0 v)) ∧ Gr w w' := by
  go_enter Try.func30, Try.ntmps30
  go_wp2
  go_ret
  exact ⟨ret_i64 (wrapA v), (Gr.refl _).al _⟩
set_option maxHeartbeats 400000 in
theorem swrap_1 (v : Int) (w : World) : Calls Try.prog 30 #[.agg #[.int .i64 32, .bool false], .int .i64 v] w fun e w' => e = .returned (.int .i64 (wd 1 v)) ∧ Gr w w' := by
  go_enter Try.func30, Try.ntmps30
  go_wp2
  go_ret
  exact ⟨ret_i64 (wrapB v), (Gr.refl _).al _⟩
set_option maxHeartbeats 400000 in
theorem swrap_2 (v : Int) (w : World) (h1 : -9223372036854775808 ≤ v) (h2 : v ≤ 9223372036854775807) : Calls Try.prog 30 #[.agg #[.int .i64 64, .bool true], .int .i64 v] w fun e w' => e = .returned (.int .i64 (wd 2 v)) ∧ Gr w w' := by
  go_enter Try.func30, Try.ntmps30
  go_wp2
  go_ret
  exact ⟨ret_i64 (by simp [wd]), (Gr.refl _).al _⟩

set_option maxHeartbeats 400000 in
theorem Wrap_0 (v : Int) (w : World) : Calls Try.prog 18 #[.int .i64 0, .int .i64 v] w fun e w' => e = .returned (.tuple #[.int .i64 (wd 0 v), .int .i64 0]) ∧ Gr w w' := by
  go_enter Try.func18, Try.ntmps18
  go_wp2_with fail
  refine (shapeOf_0 _).mono ?_
  rintro e w1 ⟨rfl, hb1⟩
  go_wp2_with fail
  refine (swrap_0 v _).mono ?_
  rintro e w2 ⟨rfl, hb2⟩
  go_wp2_with fail
  go_ret2
  exact ⟨rfl, (hb1.al _).trans hb2⟩
set_option maxHeartbeats 400000 in
theorem Wrap_1 (v : Int) (w : World) : Calls Try.prog 18 #[.int .i64 1, .int .i64 v] w fun e w' => e = .returned (.tuple #[.int .i64 (wd 1 v), .int .i64 0]) ∧ Gr w w' := by
  go_enter Try.func18, Try.ntmps18
  go_wp2_with fail
  refine (shapeOf_1 _).mono ?_
  rintro e w1 ⟨rfl, hb1⟩
  go_wp2_with fail
  refine (swrap_1 v _).mono ?_
  rintro e w2 ⟨rfl, hb2⟩
  go_wp2_with fail
  go_ret2
  exact ⟨rfl, (hb1.al _).trans hb2⟩
set_option maxHeartbeats 400000 in
theorem Wrap_2 (v : Int) (w : World) (h1 : -9223372036854775808 ≤ v) (h2 : v ≤ 9223372036854775807) : Calls Try.prog 18 #[.int .i64 2, .int .i64 v] w fun e w' => e = .returned (.tuple #[.int .i64 (wd 2 v), .int .i64 0]) ∧ Gr w w' := by
  go_enter Try.func18, Try.ntmps18
  go_wp2_with fail
  refine (shapeOf_2 _).mono ?_
  rintro e w1 ⟨rfl, hb1⟩
  go_wp2_with fail
  refine (swrap_2 v _ h1 h2).mono ?_
  rintro e w2 ⟨rfl, hb2⟩
  go_wp2_with fail
  go_ret2
  exact ⟨rfl, (hb1.al _).trans hb2⟩
set_option maxHeartbeats 400000 in
theorem Wrap_no (k v : Int) (w : World) (hk : k < 0 ∨ 2 < k) : Calls Try.prog 18 #[.int .i64 k, .int .i64 v] w fun e w' => e = .returned (.tuple #[.int .i64 0, .int .i64 1]) ∧ Gr w w' := by
  go_enter Try.func18, Try.ntmps18
  go_wp2_with fail
  refine (shapeOf_no k _ hk).mono ?_
  rintro e w1 ⟨rfl, hb1⟩
  go_wp2_with fail
  go_ret2
  exact ⟨rfl, hb1.al _⟩
theorem Wrap_ok (k v : Int) (w : World) (hk : 0 ≤ k ∧ k ≤ 2) (hv : -9223372036854775808 ≤ v ∧ v ≤ 9223372036854775807) : Calls Try.prog 18 #[.int .i64 k, .int .i64 v] w fun e w' => e = .returned (.tuple #[.int .i64 (wd k v), .int .i64 0]) ∧ Gr w w' := by
  obtain rfl | rfl | rfl : k = 0 ∨ k = 1 ∨ k = 2 := by omega
  · exact Wrap_0 v w
  · exact Wrap_1 v w
  · exact Wrap_2 v w hv.1 hv.2

theorem wrap64_b (v : Int) : -9223372036854775808 ≤ wrap64 v ∧ wrap64 v ≤ 9223372036854775807 := by unfold wrap64; omega

set_option maxHeartbeats 400000 in
theorem Add_ok (k a b : Int) (w : World) (hk : 0 ≤ k ∧ k ≤ 2) : Calls Try.prog 31 #[.int .i64 k, .int .i64 a, .int .i64 b] w fun e w' => e = .returned (.tuple #[.int .i64 (wd k (wrap64 (a + b))), .int .i64 0]) ∧ Gr w w' := by
  go_enter Try.func31, Try.ntmps31
  go_wp2_with fail
  refine (Wrap_ok k (wrap64 (a + b)) _ hk (wrap64_b _)).mono ?_
  rintro e w1 ⟨rfl, hb1⟩
  go_wp2_with fail
  go_ret2
  exact ⟨rfl, hb1⟩
set_option maxHeartbeats 400000 in
theorem Add_no (k a b : Int) (w : World) (hk : k < 0 ∨ 2 < k) : Calls Try.prog 31 #[.int .i64 k, .int .i64 a, .int .i64 b] w fun e w' => e = .returned (.tuple #[.int .i64 0, .int .i64 1]) ∧ Gr w w' := by
  go_enter Try.func31, Try.ntmps31
  go_wp2_with fail
  refine (Wrap_no k (wrap64 (a + b)) _ hk).mono ?_
  rintro e w1 ⟨rfl, hb1⟩
  go_wp2_with fail
  go_ret2
  exact ⟨rfl, hb1⟩
set_option maxHeartbeats 400000 in
theorem Fits_0 (v : Int) (w : World) : Calls Try.prog 25 #[.int .i64 0, .int .i64 v] w fun e w' => e = .returned (.bool (wd 0 v == v)) ∧ Gr w w' := by
  go_enter Try.func25, Try.ntmps25
  go_wp2_with fail
  refine (shapeOf_0 _).mono ?_
  rintro e w1 ⟨rfl, hb1⟩
  go_wp2_with fail
  refine (swrap_0 v _).mono ?_
  rintro e w2 ⟨rfl, hb2⟩
  go_wp2_with fail
  go_ret
  exact ⟨rfl, (hb1.al _).trans hb2⟩
set_option maxHeartbeats 400000 in
theorem Fits_1 (v : Int) (w : World) : Calls Try.prog 25 #[.int .i64 1, .int .i64 v] w fun e w' => e = .returned (.bool (wd 1 v == v)) ∧ Gr w w' := by
  go_enter Try.func25, Try.ntmps25
  go_wp2_with fail
  refine (shapeOf_1 _).mono ?_
  rintro e w1 ⟨rfl, hb1⟩
  go_wp2_with fail
  refine (swrap_1 v _).mono ?_
  rintro e w2 ⟨rfl, hb2⟩
  go_wp2_with fail
  go_ret
  exact ⟨rfl, (hb1.al _).trans hb2⟩
set_option maxHeartbeats 400000 in
theorem Fits_2 (v : Int) (w : World) (h1 : -9223372036854775808 ≤ v) (h2 : v ≤ 9223372036854775807) : Calls Try.prog 25 #[.int .i64 2, .int .i64 v] w fun e w' => e = .returned (.bool (wd 2 v == v)) ∧ Gr w w' := by
  go_enter Try.func25, Try.ntmps25
  go_wp2_with fail
  refine (shapeOf_2 _).mono ?_
  rintro e w1 ⟨rfl, hb1⟩
  go_wp2_with fail
  refine (swrap_2 v _ h1 h2).mono ?_
  rintro e w2 ⟨rfl, hb2⟩
  go_wp2_with fail
  go_ret
  exact ⟨rfl, (hb1.al _).trans hb2⟩
set_option maxHeartbeats 400000 in
theorem Fits_no (k v : Int) (w : World) (hk : k < 0 ∨ 2 < k) : Calls Try.prog 25 #[.int .i64 k, .int .i64 v] w fun e w' => e = .returned (.bool false) ∧ Gr w w' := by
  go_enter Try.func25, Try.ntmps25
  go_wp2_with fail
  refine (shapeOf_no k _ hk).mono ?_
  rintro e w1 ⟨rfl, hb1⟩
  go_wp2_with fail
  go_ret
  exact ⟨rfl, hb1.al _⟩
/-- Is v a word of kind k? -/
def fitB (k v : Int) : Bool := decide (0 ≤ k ∧ k ≤ 2) && wd k v == v
theorem Fits_ok (k v : Int) (w : World) (hv : -9223372036854775808 ≤ v ∧ v ≤ 9223372036854775807) : Calls Try.prog 25 #[.int .i64 k, .int .i64 v] w fun e w' => e = .returned (.bool (fitB k v)) ∧ Gr w w' := by
  by_cases hk : 0 ≤ k ∧ k ≤ 2
  · have hf : fitB k v = (wd k v == v) := by simp [fitB, hk]
    rw [hf]
    obtain rfl | rfl | rfl : k = 0 ∨ k = 1 ∨ k = 2 := by omega
    · exact Fits_0 v w
    · exact Fits_1 v w
    · exact Fits_2 v w hv.1 hv.2
  · have hf : fitB k v = false := by simp [fitB, hk]
    rw [hf]
    exact Fits_no k v w (by omega)
end Go.Proofs.Ytibbndoohpfbmaa
