/-
  Plain facts on memories that are changed.
-/
import Derived.Test.YtcfgkldlhlnniaaCellLaw
namespace Go.Proofs.Ytcfgkldlhlnniaa
open Go.RowKit

theorem right_set {l : List (Int × Int)} {i : Nat} {x : Int × Int} {y : Int} (hr : rightB l = true) (hf : fitB x.1 y = true) : rightB (l.set i (x.1, y)) = true := by
  simp only [rightB, Bool.and_eq_true, decide_eq_true_eq, List.all_eq_true, List.length_set] at hr ⊢
  refine ⟨hr.1, fun z hz => ?_⟩
  rcases List.mem_or_eq_of_mem_set hz with h | rfl
  · exact hr.2 z h
  · exact hf
theorem get_in {l : List (Int × Int)} {n : Nat} {a : Int} (hl : l.length = n) (h0 : 0 ≤ a) (h1 : a < n) : ∃ (i : Nat) (x : Int × Int), a = (i : Int) ∧ l[i]? = some x ∧ i < n := by
  obtain ⟨i, rfl⟩ := Int.eq_ofNat_of_zero_le h0
  have hi : i < l.length := by omega
  exact ⟨i, l[i], rfl, List.getElem?_eq_getElem hi, by omega⟩
theorem get_set_ne {l : List (Int × Int)} {i j : Nat} {x y : Int × Int} (hij : i ≠ j) (h : l[j]? = some x) : (l.set i y)[j]? = some x := by rw [List.getElem?_set_ne hij, h]
theorem get_set_eq {l : List (Int × Int)} {i : Nat} {x y : Int × Int} (h : l[i]? = some x) : (l.set i y)[i]? = some y := by
  have := (List.getElem?_eq_some_iff.1 h).1
  rw [List.getElem?_set_self this]
end Go.Proofs.Ytcfgkldlhlnniaa
