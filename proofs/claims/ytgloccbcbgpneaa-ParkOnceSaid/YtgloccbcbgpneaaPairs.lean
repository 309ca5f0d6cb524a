/-
  [][2]int: a slice of pairs that reads as a list; a parameter [][2]int, opened.
-/
import Derived.Test.YtgloccbcbgpneaaInts
import Derived.Lib.SmallJoins
import Derived.Deep.Strs
namespace Go.Proofs.Ytgloccbcbgpneaa
open Go.ChangeShapes Go.WideShapes Go.ChangeAt Go.RowKit Go.Joins
set_option maxRecDepth 100000
set_option linter.unusedVariables false

/-- An array of two one-cell elements, taken apart (after the library's trod_array3). -/
theorem trod_array2 {H : Type} {enc : TypeId × Value → H} {P : Program} {w : World} {base : Nat} {spare : Nat → Bool} {held : Bool} {t e : TypeId} {fuel : Nat} {c0 c1 : Value} {x : DataW H × List MemPlace} (ht : P.underlying t = some (.array 2 e)) (hce : P.cellsOf e = 1)
    (h : DataW.trod enc P w base spare held fuel t [c0, c1] = some x) :
    ∃ y0 y1 n, DataW.trod enc P w base spare held n e [c0] = some y0 ∧ DataW.trod enc P w base spare held n e [c1] = some y1 := by
  cases fuel with
  | zero => simp [DataW.trod] at h
  | succ n =>
    unfold DataW.trod at h
    rw [ht] at h
    have r2 : List.range 2 = [0, 1] := rfl
    simp [r2, hce] at h
    obtain ⟨_, h⟩ := h
    cases h0 : DataW.trod enc P w base spare held n e [c0] with
    | none => simp [h0] at h
    | some y0 =>
      cases h1 : DataW.trod enc P w base spare held n e [c1] with
      | none => simp [h0, h1] at h
      | some y1 => exact ⟨y0, y1, n, h0, h1⟩

/-- A slice of pairs that reads as a list. -/
def PMem (w : World) (A : Option Addr) (n : Nat) (l : List (Int × Int)) : Prop :=
  l.length = n ∧ (∀ x ∈ l, B64 x.1 ∧ B64 x.2) ∧ (0 < n → ∃ b off, A = some ⟨b, off, none⟩ ∧ b < w.heap.size ∧ ∀ j x, l[j]? = some x →
    w.cell? ⟨b, off + j * 2, none⟩ = some (.int .i64 x.1) ∧ w.cell? ⟨b, off + j * 2 + 1, none⟩ = some (.int .i64 x.2))
section
variable {w w' : World} {A : Option Addr} {n : Nat} {l : List (Int × Int)}
theorem PMem.gr (h : PMem w A n l) (g : Gr w w') : PMem w' A n l :=
  ⟨h.1, h.2.1, fun hn => by
    obtain ⟨b, off, rfl, hlt, hc⟩ := h.2.2 hn
    refine ⟨b, off, rfl, Nat.lt_of_lt_of_le hlt g.size, fun j x hj => ?_⟩
    rw [g.cell (p := ⟨b, off + j * 2, none⟩) hlt, g.cell (p := ⟨b, off + j * 2 + 1, none⟩) hlt]
    exact hc j x hj⟩
theorem PMem.at_ {k : Nat} (h : PMem w A n l) (hk : k < n) :
    ∃ b off x y, A = some ⟨b, off, none⟩ ∧ b < w.heap.size ∧ l[k]? = some (x, y) ∧ B64 x ∧ B64 y ∧
      w.cell? ⟨b, off + k * 2, none⟩ = some (.int .i64 x) ∧ w.cell? ⟨b, off + k * 2 + 1, none⟩ = some (.int .i64 y) := by
  obtain ⟨b, off, e, hb, hc⟩ := h.2.2 (by omega)
  have hl : k < l.length := by have := h.1; omega
  have hx : l[k]? = some l[k] := List.getElem?_eq_getElem hl
  obtain ⟨h1, h2⟩ := h.2.1 _ (List.getElem_mem hl)
  obtain ⟨c0, c1⟩ := hc k _ hx
  exact ⟨b, off, _, _, e, hb, hx, h1, h2, c0, c1⟩
end
theorem cellsOfPair : Try.prog.cellsOf 38 = 2 := by kernel_rfl
theorem open_pairs {H : Type} {enc : TypeId × Value → H} {W : World} {base : Nat} {sp : Nat → Bool} {v : Value} {d : DataW H} {ps : List MemPlace}
    (hval : Value.okWide Try.prog W .any base 37 v) (h : DataW.Trod enc Try.prog W 0 sp true 37 v d ps) :
    ∃ (A : Option Addr) (n c : Nat) (l : List (Int × Int)), v = .slice A n c ∧ n ≤ c ∧ n ≤ 9223372036854775807 ∧ PMem W A n l := by
  obtain ⟨A, n, c, rfl, hnc, hcm, hel⟩ := open_rowK Try.underlying37 hval h
  unfold maxLen at hcm
  rw [cellsOfPair] at hel
  have hx : ∀ i, i < n → ∃ x : Int × Int, (B64 x.1 ∧ B64 x.2) ∧ ∃ a, A = some a ∧ W.cell? (a.add (i * 2)) = some (.int .i64 x.1) ∧ W.cell? (a.add (i * 2 + 1)) = some (.int .i64 x.2) := fun i hi => by
    obtain ⟨a, cs, y, m, ha, h1, h2⟩ := hel i hi
    obtain ⟨_, hlen, hcell⟩ := World.cells?_some h1
    match cs, hlen with
    | [k0, k1], _ =>
      obtain ⟨y0, y1, fu, t0, t1⟩ := trod_array2 Try.underlying38 cellsOfInt h2
      obtain ⟨p, hp, _, wp⟩ := DataW.trod_int Try.underlying3 t0
      obtain ⟨q, hq, _, wq⟩ := DataW.trod_int Try.underlying3 t1
      simp at hp hq
      subst hp hq
      have e0 := hcell 0 (by omega)
      have e1 := hcell 1 (by omega)
      rw [Deep.add_add] at e0 e1
      exact ⟨(p, q), ⟨wfb wp, wfb wq⟩, a, ha, by simpa using e0, by simpa using e1⟩
  obtain ⟨f, hf⟩ := Deep.choose_lt hx
  refine ⟨A, n, c, (List.range n).map f, rfl, hnc, by omega, by rw [List.length_map, List.length_range], fun x hx => ?_, fun hn => ?_⟩
  · obtain ⟨i, hi, rfl⟩ := List.mem_map.1 hx
    exact (hf i (List.mem_range.1 hi)).1
  · obtain ⟨_, a, rfl, h0, _⟩ := hf 0 hn
    obtain ⟨b, off, spot⟩ := a
    have hspot : spot = none := by simpa [Addr.add] using World.cell?_spot h0
    subst hspot
    refine ⟨b, off, rfl, World.block_lt_of_cell? W _ (by simpa [Addr.add] using h0), fun j x hj => ?_⟩
    rw [List.getElem?_map, Option.map_eq_some_iff] at hj
    obtain ⟨i, hi, rfl⟩ := hj
    obtain ⟨hi1, rfl⟩ := List.getElem?_eq_some_iff.1 hi
    rw [List.length_range] at hi1
    rw [List.getElem_range]
    obtain ⟨_, a', ha', h1, h2⟩ := hf j hi1
    cases ha'
    rw [add_plain] at h1 h2
    exact ⟨h1, h2⟩
end Go.Proofs.Ytgloccbcbgpneaa
