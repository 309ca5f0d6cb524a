/-
  Lines as lists: which may be, and what the calls answer.
-/
import Derived.Test.YtchfdgoogfidlaaInts
namespace Go.Proofs.Ytchfdgoogfidlaa
open Go.ChangeShapes Go.WideShapes Go.ChangeAt Go.RowKit
set_option linter.unusedVariables false

/-- From 0 on, no two that are one. -/
def Good (l : List Int) : Prop := (∀ x ∈ l, 0 ≤ x) ∧ l.Nodup
/-- A line that may be. -/
def Ln (l : List Int) : Prop := l.length ≤ 64 ∧ Good l
theorem Good.nil : Good [] := ⟨by simp, List.nodup_nil⟩
theorem Ln.nil : Ln [] := ⟨by simp, Good.nil⟩
theorem good_app {a b : List Int} : Good (a ++ b) ↔ Good a ∧ Good b ∧ ∀ x ∈ a, x ∉ b := by
  unfold Good
  rw [List.nodup_append]
  constructor
  · rintro ⟨h1, h2, h3, h4⟩
    exact ⟨⟨fun x hx => h1 x (List.mem_append_left _ hx), h2⟩, ⟨fun x hx => h1 x (List.mem_append_right _ hx), h3⟩, fun x hx hb => h4 x hx x hb rfl⟩
  · rintro ⟨⟨h1, h2⟩, ⟨h3, h4⟩, h5⟩
    refine ⟨fun x hx => ?_, h2, h4, fun x hx y hy e => h5 x hx (e ▸ hy)⟩
    rcases List.mem_append.1 hx with h | h
    · exact h1 x h
    · exact h3 x h
theorem good_one {x : Int} : Good [x] ↔ 0 ≤ x := by simp [Good]
theorem good_cons {x : Int} {l : List Int} : Good (x :: l) ↔ 0 ≤ x ∧ x ∉ l ∧ Good l := by
  rw [show x :: l = [x] ++ l from rfl, good_app, good_one]
  simp only [List.mem_singleton, forall_eq]
  exact ⟨fun h => ⟨h.1, h.2.2, h.2.1⟩, fun h => ⟨h.1, h.2.2, h.2.1⟩⟩
theorem take_more {l : List Int} {k : Nat} {x : Int} (h : l[k]? = some x) : l.take (k + 1) = l.take k ++ [x] := by
  rw [List.take_add_one, h]; rfl
theorem take_drop_at {l : List Int} {k : Nat} {x : Int} (h : l[k]? = some x) : l = l.take k ++ x :: l.drop (k + 1) := by
  have hk := (List.getElem?_eq_some_iff.1 h).1
  have hx := (List.getElem?_eq_some_iff.1 h).2
  rw [← hx, ← List.drop_eq_getElem_cons hk, List.take_append_drop]
theorem good_take {l : List Int} (h : Good l) (k : Nat) : Good (l.take k) := by
  rw [← List.take_append_drop k l] at h
  exact (good_app.1 h).1
theorem not_mem_take {l : List Int} {k : Nat} {x : Int} (hk : k ≤ l.length) : x ∉ l.take k ↔ ∀ j, j < k → l[j]? ≠ some x := by
  constructor
  · intro h j hj e
    exact h (List.mem_iff_getElem?.2 ⟨j, by rw [List.getElem?_take, if_pos hj]; exact e⟩)
  · intro h hm
    obtain ⟨j, hj⟩ := List.mem_iff_getElem?.1 hm
    rw [List.getElem?_take] at hj
    split at hj
    · exact h j (by assumption) hj
    · cases hj
theorem not_good_dup {l : List Int} {k j : Nat} {x : Int} (h1 : l[k]? = some x) (h2 : l[j]? = some x) (hj : j < k) : ¬ Good l := by
  intro h
  rw [take_drop_at h1, good_app] at h
  exact h.2.2 x (List.mem_iff_getElem?.2 ⟨j, by rw [List.getElem?_take, if_pos hj]; exact h2⟩) (by simp)
theorem split_at {l : List Int} {x : Int} (h : x ∈ l) : ∃ a b, l = a ++ x :: b := by
  exact List.append_of_mem h
/-- With no other like it: the first place is the one. -/
theorem at_of {a b l : List Int} {x : Int} (hl : l = a ++ x :: b) (hg : Good l) : l[a.length]? = some x ∧ ∀ j, j < a.length → l[j]? ≠ some x := by
  subst hl
  refine ⟨by simp, fun j hj e => ?_⟩
  rw [List.getElem?_append_left hj] at e
  exact (good_app.1 hg).2.2 x (List.mem_iff_getElem?.2 ⟨j, e⟩) (by simp)

/-- What Place answers. -/
def PlaceR (l : List Int) (who r e : Int) : Prop :=
  ((who < 0 ∨ ¬ Ln l) ∧ r = 0 ∧ e = 1) ∨ (0 ≤ who ∧ Ln l ∧ who ∉ l ∧ r = 0 ∧ e = 4) ∨ (0 ≤ who ∧ Ln l ∧ (∃ a b, l = a ++ who :: b ∧ r = a.length) ∧ e = 0)
theorem PlaceR.any (l : List Int) (who : Int) : ∃ r e, PlaceR l who r e := by
  by_cases h : who < 0 ∨ ¬ Ln l
  · exact ⟨0, 1, .inl ⟨h, rfl, rfl⟩⟩
  · have h1 : 0 ≤ who := by omega
    have h2 : Ln l := Classical.byContradiction fun hn => h (.inr hn)
    by_cases hm : who ∈ l
    · obtain ⟨a, b, hl⟩ := split_at hm
      exact ⟨a.length, 0, .inr (.inr ⟨h1, h2, ⟨a, b, hl, rfl⟩, rfl⟩)⟩
    · exact ⟨0, 4, .inr (.inl ⟨h1, h2, hm, rfl, rfl⟩)⟩
/-- What Push answers. -/
def PushR (l : List Int) (who : Int) (first : Bool) (r : List Int) (e : Int) : Prop :=
  ((who < 0 ∨ ¬ Ln l) ∧ r = [] ∧ e = 1) ∨ (0 ≤ who ∧ Ln l ∧ who ∈ l ∧ r = [] ∧ e = 7) ∨ (0 ≤ who ∧ Ln l ∧ who ∉ l ∧ l.length = 64 ∧ r = [] ∧ e = 5) ∨
    (0 ≤ who ∧ Ln l ∧ who ∉ l ∧ l.length < 64 ∧ r = (if first = true then who :: l else l ++ [who]) ∧ e = 0)
theorem PushR.any (l : List Int) (who : Int) (first : Bool) : ∃ r e, PushR l who first r e := by
  by_cases h : who < 0 ∨ ¬ Ln l
  · exact ⟨[], 1, .inl ⟨h, rfl, rfl⟩⟩
  · have h1 : 0 ≤ who := by omega
    have h2 : Ln l := Classical.byContradiction fun hn => h (.inr hn)
    by_cases hm : who ∈ l
    · exact ⟨[], 7, .inr (.inl ⟨h1, h2, hm, rfl, rfl⟩)⟩
    · by_cases hl : l.length = 64
      · exact ⟨[], 5, .inr (.inr (.inl ⟨h1, h2, hm, hl, rfl, rfl⟩))⟩
      · exact ⟨_, 0, .inr (.inr (.inr ⟨h1, h2, hm, by have := h2.1; omega, rfl, rfl⟩))⟩
/-- What Drop answers. -/
def DropR (l : List Int) (who : Int) (r : List Int) (e : Int) : Prop :=
  ((who < 0 ∨ ¬ Ln l) ∧ r = [] ∧ e = 1) ∨ (0 ≤ who ∧ Ln l ∧ who ∉ l ∧ r = [] ∧ e = 4) ∨ (0 ≤ who ∧ Ln l ∧ (∃ a b, l = a ++ who :: b ∧ r = a ++ b) ∧ e = 0)
theorem DropR.any (l : List Int) (who : Int) : ∃ r e, DropR l who r e := by
  by_cases h : who < 0 ∨ ¬ Ln l
  · exact ⟨[], 1, .inl ⟨h, rfl, rfl⟩⟩
  · have h1 : 0 ≤ who := by omega
    have h2 : Ln l := Classical.byContradiction fun hn => h (.inr hn)
    by_cases hm : who ∈ l
    · obtain ⟨a, b, hl⟩ := split_at hm
      exact ⟨a ++ b, 0, .inr (.inr ⟨h1, h2, ⟨a, b, hl, rfl⟩, rfl⟩)⟩
    · exact ⟨[], 4, .inr (.inl ⟨h1, h2, hm, rfl, rfl⟩)⟩
/-- What Pop answers. -/
def PopR (l : List Int) (r : List Int) (x e : Int) : Prop :=
  (¬ Ln l ∧ r = [] ∧ x = 0 ∧ e = 1) ∨ (l = [] ∧ r = [] ∧ x = 0 ∧ e = 4) ∨ (Ln l ∧ l = x :: r ∧ e = 0)
theorem PopR.any (l : List Int) : ∃ r x e, PopR l r x e := by
  by_cases h : Ln l
  · cases l with
    | nil => exact ⟨[], 0, 4, .inr (.inl ⟨rfl, rfl, rfl, rfl⟩)⟩
    | cons x r => exact ⟨r, x, 0, .inr (.inr ⟨h, rfl, rfl⟩)⟩
  · exact ⟨[], 0, 1, .inl ⟨h, rfl, rfl, rfl⟩⟩
end Go.Proofs.Ytchfdgoogfidlaa
