/-
  Package treap: Pri, Right.
-/
import Derived.Test.YtmkkeknimpjfoaaTreapMem
import Derived.Deep.RegionHeld3
import Derived.Deep.QuietTactic
import Derived.BigQuiet
import Derived.Outline
namespace Go.Proofs.Ytmkkeknimpjfoaa
open Go.ChangeShapes Go.WideShapes Go.ChangeAt Go.RowKit
set_option linter.unusedVariables false

/-- A key's weight, or -1. -/
def prf (k : Int) : Int := if 0 ≤ k ∧ k ≤ 4294967295 then pri k else -1
theorem prf_key {k : Int} (h : IsKey k) : prf k = pri k := if_pos h
theorem prf_no {k : Int} (h : ¬ IsKey k) : prf k = -1 := if_neg h
theorem prf_range (k : Int) : -1 ≤ prf k ∧ prf k < 4294967296 := by
  unfold prf
  have := pri_range k
  split <;> omega

theorem wrap_u32 (x : Int) : IntKind.u32.wrap x = x % 4294967296 := by simp [IntKind.wrap, IntKind.bits, IntKind.signed]
set_option maxHeartbeats 1000000 in
theorem Pri_is (k : Int) (w : World) : Calls Try.prog 56 #[.int .i64 k] w fun e w' => e = .returned (.int .i64 (prf k)) ∧ w' = w := by
  by_cases h : IsKey k
  · rw [prf_key h]
    unfold IsKey at h
    obtain ⟨h0, h1⟩ := h
    obtain ⟨p, hp⟩ : ∃ p, p = pri k := ⟨_, rfl⟩
    rw [← hp]
    have e1 : IntKind.u32.wrap k = k := (wrap_u32 k).trans (by omega)
    have e2 : IntKind.u32.wrap (k * 2654435761) = p := (wrap_u32 _).trans (by rw [hp]; rfl)
    have hr : 0 ≤ p ∧ p < 4294967296 := by rw [hp]; exact pri_range k
    have e3 : IntKind.i64.wrap p = p := wrap_id (by omega) (by omega)
    clear hp
    go_enter Try.func56, Try.ntmps56
    go_wp2_with fail
    go_ret
    exact ⟨rfl, rfl⟩
  · rw [prf_no h]
    unfold IsKey at h
    by_cases h0 : k < 0
    · go_enter Try.func56, Try.ntmps56
      go_wp2_with fail
      go_ret
      exact ⟨rfl, rfl⟩
    · have h1 : 4294967295 < k := by omega
      go_enter Try.func56, Try.ntmps56
      go_wp2_with fail
      go_ret
      exact ⟨rfl, rfl⟩
end Go.Proofs.Ytmkkeknimpjfoaa
