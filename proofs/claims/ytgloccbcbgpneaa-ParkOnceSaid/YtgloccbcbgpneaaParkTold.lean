/-
  How often each was told more than it parked, and what each is by that; a row of such numbers in memory.
-/
import Derived.Test.YtgloccbcbgpneaaParkLaw
namespace Go.Proofs.Ytgloccbcbgpneaa
open Go.ChangeShapes Go.WideShapes Go.ChangeAt Go.RowKit
set_option linter.unusedVariables false
namespace P11

/-- a % n, made to be from 0 on. -/
theorem mods (a : Int) (n : Nat) (h : 0 < n) (hn : n ≤ 64) : ∃ (t u : Int) (p : Nat), a.tmod (n : Int) = t ∧ wrap64 (t + n) = u ∧ u.tmod (n : Int) = (p : Int) ∧ p < n := by
  have h1 : a.tmod (n : Int) < n := Int.tmod_lt_of_pos a (by omega)
  have h2 : -(n : Int) < a.tmod (n : Int) := Int.lt_tmod_of_pos a (by omega)
  generalize a.tmod (n : Int) = t at *
  have hu : wrap64 (t + n) = t + n := by unfold wrap64; omega
  have h3 := Int.tmod_nonneg (n : Int) (show 0 ≤ t + n by omega)
  have h4 : (t + n).tmod (n : Int) < n := Int.tmod_lt_of_pos _ (by omega)
  refine ⟨t, t + n, ((t + n).tmod (n : Int)).toNat, rfl, hu, by omega, by omega⟩

/-- What one is that was told t times more than it parked. -/
def gOf (t : Int) : G := if t < 0 then (1, false) else (0, decide (0 < t))
/-- What may be. -/
def Few (T : List Int) : Prop := T.length ≤ 8 ∧ ∀ t ∈ T, t = -1 ∨ t = 0 ∨ t = 1
theorem ok_gOf (t : Int) : okG (gOf t) = true := by
  unfold gOf
  split <;> simp [okG]
theorem Few.right {T : List Int} (h : Few T) : rightB (T.map gOf) = true := by
  simp only [rightB, List.length_map, Bool.and_eq_true, decide_eq_true_eq, List.all_eq_true]
  refine ⟨h.1, fun x hx => ?_⟩
  obtain ⟨t, _, rfl⟩ := List.mem_map.1 hx
  exact ok_gOf t
theorem Few.set {T : List Int} (h : Few T) (k : Nat) {t : Int} (ht : t = -1 ∨ t = 0 ∨ t = 1) : Few (T.set k t) := by
  refine ⟨by rw [List.length_set]; exact h.1, fun x hx => ?_⟩
  rcases List.mem_or_eq_of_mem_set hx with h1 | rfl
  · exact h.2 x h1
  · exact ht
theorem map_get {T : List Int} {k : Nat} {t : Int} (h : T[k]? = some t) : (T.map gOf)[k]? = some (gOf t) := by rw [List.getElem?_map, h]; rfl
theorem told_park {T : List Int} {k : Nat} {t : Int} (h : Few T) (ht : T[k]? = some t) :
    outc pkG (T.map gOf) (k : Int) = if t < 0 then (6, []) else (0, (T.set k (t - 1)).map gOf) := by
  have h3 := h.2 t (List.mem_of_getElem? ht)
  rw [outc_at h.right (map_get ht), List.map_set]
  rcases h3 with rfl | rfl | rfl <;> rfl
theorem told_ready {T : List Int} {k : Nat} {t : Int} (h : Few T) (ht : T[k]? = some t) :
    outc rdG (T.map gOf) (k : Int) = if 0 < t then (7, []) else (0, (T.set k (t + 1)).map gOf) := by
  have h3 := h.2 t (List.mem_of_getElem? ht)
  rw [outc_at h.right (map_get ht), List.map_set]
  rcases h3 with rfl | rfl | rfl <;> rfl

/-- The block b reads as T. -/
def TB (w : World) (b : Nat) (T : List Int) : Prop := ∃ vs, Blk w b vs 3 ∧ vs.toList = T.map (Value.int .i64)
section
variable {w w' : World} {b : Nat} {T : List Int}
theorem TB.gr (h : TB w b T) (g : Gr w w') : TB w' b T := by
  obtain ⟨vs, h1, h2⟩ := h
  exact ⟨vs, h1.gr g, h2⟩
theorem TB.lt (h : TB w b T) : b < w.heap.size := by
  obtain ⟨vs, h1, h2⟩ := h
  exact h1.lt
theorem TB.at_ (h : TB w b T) {k : Nat} {t : Int} (ht : T[k]? = some t) : w.cell? ⟨b, k, none⟩ = some (.int .i64 t) ∧ w.frozen? ⟨b, k, none⟩ = false := by
  obtain ⟨vs, h1, h2⟩ := h
  refine h1.at_ ?_
  rw [← Array.getElem?_toList, h2, List.getElem?_map, ht]
  rfl
theorem TB.put (h : TB w b T) (k : Nat) (t : Int) : TB (w.setCell ⟨b, k, none⟩ (.int .i64 t)) b (T.set k t) := by
  obtain ⟨vs, h1, h2⟩ := h
  exact ⟨_, h1.set k _, by rw [Array.toList_setIfInBounds, h2, List.map_set]⟩
theorem TB.new (w : World) (n : Nat) : TB (w.alloc (.cells (madeCells #[.int .i64 0] n) 3)) w.heap.size (List.replicate n 0) :=
  ⟨_, Blk.new w _ _, by rw [toList_madeCells_one]; simp⟩
end
theorem flat_replicate (n : Nat) : (madeCells #[.int .i64 0, .bool false] (n * 2)).toList = flat (List.replicate n (0, false)) := by
  apply List.ext_getElem?
  intro j
  by_cases hj : j < n * 2
  · have h1 : (madeCells #[Value.int .i64 0, .bool false] (n * 2)).toList[j]? = some (#[Value.int .i64 0, .bool false][j % 2]!) := by
      simp [madeCells, hj]
    rw [h1]
    have hr : ∀ i, i < n → (List.replicate n ((0, false) : G))[i]? = some (0, false) := fun i hi => by simp [hi]
    rcases (by omega : j % 2 = 0 ∨ j % 2 = 1) with h | h
    · have := flat_get0 _ (j / 2) _ (hr (j / 2) (by omega))
      rw [show j / 2 * 2 = j by omega] at this
      rw [this, h]
      rfl
    · have := flat_get1 _ (j / 2) _ (hr (j / 2) (by omega))
      rw [show j / 2 * 2 + 1 = j by omega] at this
      rw [this, h]
      rfl
  · rw [List.getElem?_eq_none (by simp [madeCells]; omega), List.getElem?_eq_none (by rw [flat_len, List.length_replicate]; omega)]
theorem gors_new (w : World) (n : Nat) : GMem (w.alloc (.cells (madeCells #[.int .i64 0, .bool false] (n * 2)) 40)) (some ⟨w.heap.size, 0, none⟩) n ((List.replicate n (0 : Int)).map gOf) := by
  have h := GMem.of_blk (l := (List.replicate n (0 : Int)).map gOf) (Blk.new w (madeCells #[.int .i64 0, .bool false] (n * 2)) 40) (by rw [flat_replicate, List.map_replicate]; rfl) (by
    intro x hx
    rw [List.map_replicate, List.mem_replicate] at hx
    rw [hx.2]
    exact ⟨by decide, by decide⟩)
  rwa [List.length_map, List.length_replicate] at h
end P11
end Go.Proofs.Ytgloccbcbgpneaa
