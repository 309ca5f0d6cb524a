/-
  Package spin: plain facts on tickets; a parameter api.Ticket, opened.
-/
import Derived.Test.YtibbndoohpfbmaaSpinFn
import Derived.Test.YtibbndoohpfbmaaEnds
import Derived.Lib.SmallJoins
namespace Go.Proofs.Ytibbndoohpfbmaa
open Go.ChangeShapes Go.WideShapes Go.ChangeAt Go.RowKit Go.Joins
set_option linter.unusedVariables false

theorem fit1 (v : Int) : fitB 1 v = true ↔ 0 ≤ v ∧ v < 4294967296 := by
  simp only [fitB, wd, Bool.and_eq_true, decide_eq_true_eq, beq_iff_eq]
  simp
  omega
theorem tk_iff (n s : Int) : tkB n s = true ↔ (0 ≤ n ∧ n < 4294967296) ∧ (0 ≤ s ∧ s < 4294967296) := by
  simp only [tkB, Bool.and_eq_true, fit1]
theorem outT_eq (n s : Int) : outT n s = (n - s) % 4294967296 := by
  simp only [outT, wd]
  simp
  unfold wrap64; omega
theorem up1_eq (v : Int) : up1 v = (v + 1) % 4294967296 := by
  simp only [up1, wd]
  simp
  unfold wrap64; omega
theorem at1_eq (a : Int) (j : Nat) : atN 1 a j = (a + j) % 4294967296 := by
  simp only [atN, wd]
  simp
  unfold wrap64; omega
theorem b64_of {v : Int} (h : 0 ≤ v ∧ v < 4294967296) : B64 v := by unfold B64; omega
theorem at1_b (a : Int) (j : Nat) : B64 (atN 1 a j) := b64_of (by rw [at1_eq]; omega)

theorem open_ticket {H : Type} {enc : TypeId × Value → H} {W : World} {base : Nat} {sp : Nat → Bool} {v : Value} {d : DataW H} {ps : List MemPlace}
    (hval : Value.okWide Try.prog W .any base 23 v) (h : DataW.Trod enc Try.prog W 0 sp true 23 v d ps) :
    ∃ (n s : Int), v = .agg #[.int .i64 n, .int .i64 s] ∧ B64 n ∧ B64 s := by
  obtain ⟨v0, v1, y0, y1, k, rfl, rfl, rfl, t0, t1⟩ := open_agg2 Try.underlying23 (by kernel_rfl) (by kernel_rfl) hval h
  obtain ⟨n, hn, -, hw⟩ := DataW.trod_int Try.underlying3 t0
  obtain ⟨s, hs, -, hz⟩ := DataW.trod_int Try.underlying3 t1
  cases hn
  cases hs
  exact ⟨n, s, rfl, wfb hw, wfb hz⟩
end Go.Proofs.Ytibbndoohpfbmaa
