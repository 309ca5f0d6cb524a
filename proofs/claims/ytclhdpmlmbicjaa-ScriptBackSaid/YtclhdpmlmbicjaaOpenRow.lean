/-
  A parameter that is a slice, opened: whatever its elements; elements of one cell as a list.
-/
import Derived.Test.YtclhdpmlmbicjaaRow
import Derived.ChangeSlices
import Derived.ChangeArms
import Derived.Deep.Slices
namespace Go.Proofs.Ytclhdpmlmbicjaa
open Go.ChangeShapes Go.WideShapes Go.ChangeAt Go.RowKit
set_option linter.unusedVariables false

section
variable {H : Type} {enc : TypeId × Value → H} {P : Program} {W : World} {base : Nat} {sp : Nat → Bool}
theorem open_rowK {t e : TypeId} {v : Value} {d : DataW H} {ps : List MemPlace} (ht : P.underlying t = some (.slice e)) (hval : Value.okWide P W .any base t v) (h : DataW.Trod enc P W 0 sp true t v d ps) :
    ∃ (A : Option Addr) (n c : Nat), v = .slice A n c ∧ n ≤ c ∧ c ≤ maxLen ∧ ∀ i, i < n → ∃ (a : Addr) (cs : List Value) (y : DataW H × List MemPlace) (m : Nat), A = some a ∧ W.cells? 0 (a.add (i * P.cellsOf e)) (P.cellsOf e) = some cs ∧ DataW.trod enc P W 0 sp true m e cs = some y := by
  obtain ⟨a0, len, cap, rfl⟩ := okWide_slice ht hval
  obtain ⟨fuel, hf⟩ := h
  rcases DataW.trod_slice ht hf with ⟨hcs, _⟩ | ⟨a, len', cap', elems, rest, m, _, hcs, _, _, hl, hm, hlen, hel, _, _⟩
  · simp [Value.cells] at hcs
    obtain ⟨rfl, rfl, rfl⟩ := hcs
    exact ⟨none, 0, 0, rfl, Nat.le_refl _, Nat.zero_le _, fun i hi => by omega⟩
  · simp [Value.cells] at hcs
    obtain ⟨rfl, rfl, rfl⟩ := hcs
    refine ⟨some a, len, cap, rfl, hl, hm, fun i hi => ?_⟩
    have hy := hel i hi
    rw [List.getElem?_eq_getElem (by omega), Option.bind_eq_some_iff] at hy
    obtain ⟨cs, h1, h2⟩ := hy
    exact ⟨a, cs, _, m, rfl, h1, h2⟩
variable {α : Type} [Inhabited α] {en : α → Value} {ok : α → Prop}
theorem open_emem {t e : TypeId} {v : Value} {d : DataW H} {ps : List MemPlace} (ht : P.underlying t = some (.slice e)) (hc : P.cellsOf e = 1)
    (he : ∀ m cs y, DataW.trod enc P W 0 sp true m e cs = some y → ∃ x, cs = [en x] ∧ ok x)
    (hval : Value.okWide P W .any base t v) (h : DataW.Trod enc P W 0 sp true t v d ps) :
    ∃ (A : Option Addr) (n c : Nat) (l : List α), v = .slice A n c ∧ n ≤ c ∧ n ≤ 9223372036854775807 ∧ EMem en ok W A n l := by
  obtain ⟨A, n, c, rfl, hnc, hcm, hel⟩ := open_rowK ht hval h
  unfold maxLen at hcm
  rw [hc] at hel
  have hx : ∀ i, i < n → ∃ x, ok x ∧ ∃ a, A = some a ∧ W.cell? (a.add i) = some (en x) := fun i hi => by
    obtain ⟨a, cs, y, m, ha, h1, h2⟩ := hel i hi
    obtain ⟨x, rfl, hx⟩ := he m cs y h2
    rw [Nat.mul_one] at h1
    exact ⟨x, hx, a, ha, cell_of_cells?_one h1⟩
  obtain ⟨f, hf⟩ := Deep.choose_lt hx
  refine ⟨A, n, c, (List.range n).map f, rfl, hnc, by omega, by rw [List.length_map, List.length_range], fun x hx => ?_, fun hn => ?_⟩
  · obtain ⟨i, hi, rfl⟩ := List.mem_map.1 hx
    exact (hf i (List.mem_range.1 hi)).1
  · obtain ⟨_, a, rfl, h0⟩ := hf 0 hn
    obtain ⟨b, off, spot⟩ := a
    have hspot : spot = none := by simpa [Addr.add] using World.cell?_spot h0
    subst hspot
    refine ⟨b, off, rfl, World.block_lt_of_cell? W _ (by simpa [Addr.add] using h0), fun j x hj => ?_⟩
    rw [List.getElem?_map, Option.map_eq_some_iff] at hj
    obtain ⟨i, hi, rfl⟩ := hj
    obtain ⟨hi1, rfl⟩ := List.getElem?_eq_some_iff.1 hi
    rw [List.length_range] at hi1
    rw [List.getElem_range]
    obtain ⟨_, a', ha', h1⟩ := hf j hi1
    cases ha'
    rw [add_plain] at h1
    exact h1
theorem trod_float {t : TypeId} {k : FloatKind} {m : Nat} {cs : List Value} {y : DataW H × List MemPlace} (ht : P.underlying t = some (.float k)) (h : DataW.trod enc P W 0 sp true m t cs = some y) : ∃ b, cs = [.float k b] ∧ (Lit.float k b).wf = true := by
  cases m with
  | zero => simp [DataW.trod] at h
  | succ m =>
    unfold DataW.trod at h
    rw [ht] at h
    split at h <;> simp_all
end
end Go.Proofs.Ytclhdpmlmbicjaa
