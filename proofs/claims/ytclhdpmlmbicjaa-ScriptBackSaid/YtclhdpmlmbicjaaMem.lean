/-
  A slice of cells (two numbers each) that reads as a list.
-/
import Derived.Test.YtclhdpmlmbicjaaBase
import Derived.Laws.OwnMore
import Derived.Laws.MakeOwn
import Derived.Laws.CopyOwn
import Derived.Deep.QuietTactic
import Derived.BigQuiet
import Derived.Outline
namespace Go.Proofs.Ytclhdpmlmbicjaa
open Go.ChangeShapes Go.WideShapes Go.ChangeAt Go.RowKit
set_option linter.unusedVariables false

/-- A number that an int holds. -/
def Inb (v : Int) : Prop := -9223372036854775808 ≤ v ∧ v ≤ 9223372036854775807

def flat : List (Int × Int) → List Value
  | [] => []
  | x :: r => .int .i64 x.1 :: .int .i64 x.2 :: flat r
theorem flat_len (l : List (Int × Int)) : (flat l).length = l.length * 2 := by
  induction l with
  | nil => rfl
  | cons x r ih => simp [flat, ih]; omega
theorem flat_get0 : ∀ (l : List (Int × Int)) (i : Nat) (x : Int × Int), l[i]? = some x → (flat l)[i * 2]? = some (.int .i64 x.1)
  | [], i, x, h => by simp at h
  | y :: r, 0, x, h => by simp at h; subst h; rfl
  | y :: r, i + 1, x, h => by
    rw [show (i + 1) * 2 = i * 2 + 1 + 1 from by omega]
    simpa [flat] using flat_get0 r i x (by simpa using h)
theorem flat_get1 : ∀ (l : List (Int × Int)) (i : Nat) (x : Int × Int), l[i]? = some x → (flat l)[i * 2 + 1]? = some (.int .i64 x.2)
  | [], i, x, h => by simp at h
  | y :: r, 0, x, h => by simp at h; subst h; rfl
  | y :: r, i + 1, x, h => by
    rw [show (i + 1) * 2 + 1 = i * 2 + 1 + 1 + 1 from by omega]
    simpa [flat] using flat_get1 r i x (by simpa using h)
theorem flat_one (l : List (Int × Int)) : ∀ u ∈ flat l, u.oneCell' = true := by
  induction l with
  | nil => simp [flat]
  | cons x r ih =>
    intro u hu
    simp only [flat, List.mem_cons] at hu
    rcases hu with rfl | rfl | hu
    · rfl
    · rfl
    · exact ih u hu
theorem flat_append (l m : List (Int × Int)) : flat (l ++ m) = flat l ++ flat m := by
  induction l with
  | nil => rfl
  | cons x r ih => simp [flat, ih]
theorem flat_take (l : List (Int × Int)) (k : Nat) : flat (l.take k) = (flat l).take (k * 2) := by
  induction l generalizing k with
  | nil => simp [flat]
  | cons x r ih =>
    cases k with
    | zero => simp [flat]
    | succ k => rw [show (k + 1) * 2 = k * 2 + 1 + 1 from by omega]; simp [flat, ih]
theorem flat_set2 : ∀ (l : List (Int × Int)) (i : Nat) (x : Int × Int) (v : Int), l[i]? = some x → flat (l.set i (x.1, v)) = (flat l).set (i * 2 + 1) (.int .i64 v)
  | [], i, x, v, h => by simp at h
  | y :: r, 0, x, v, h => by simp at h; subst h; rfl
  | y :: r, i + 1, x, v, h => by
    rw [show (i + 1) * 2 + 1 = i * 2 + 1 + 1 + 1 from by omega]
    simpa [flat] using flat_set2 r i x v (by simpa using h)

/-- The slice at A, of n cells, reads as l. -/
def Mem (w : World) (A : Option Addr) (n : Nat) (l : List (Int × Int)) : Prop :=
  l.length = n ∧ (∀ x ∈ l, Inb x.1 ∧ Inb x.2) ∧ (0 < n → ∃ b off, A = some ⟨b, off, none⟩ ∧ b < w.heap.size ∧ ∀ j u, (flat l)[j]? = some u → w.cell? ⟨b, off + j, none⟩ = some u)

section
variable {w w' : World} {A : Option Addr} {n : Nat} {l : List (Int × Int)}
theorem Mem.nil_ : Mem w A 0 [] := ⟨rfl, by simp, fun h => absurd h (by omega)⟩
theorem Mem.gr (h : Mem w A n l) (g : Gr w w') : Mem w' A n l :=
  ⟨h.1, h.2.1, fun hn => by
    obtain ⟨b, off, e, hb, hc⟩ := h.2.2 hn
    exact ⟨b, off, e, Nat.lt_of_lt_of_le hb g.size, fun j u hu => (g.cell (p := ⟨b, off + j, none⟩) hb).trans (hc j u hu)⟩⟩
theorem Mem.at_ {k : Nat} (h : Mem w A n l) (hk : k < n) :
    ∃ b off x, A = some ⟨b, off, none⟩ ∧ b < w.heap.size ∧ l[k]? = some x ∧ Inb x.1 ∧ Inb x.2 ∧ w.cell? ⟨b, off + k * 2, none⟩ = some (.int .i64 x.1) ∧ w.cell? ⟨b, off + k * 2 + 1, none⟩ = some (.int .i64 x.2) := by
  obtain ⟨b, off, e, hb, hc⟩ := h.2.2 (by omega)
  have hl : k < l.length := by have := h.1; omega
  have hx : l[k]? = some l[k] := List.getElem?_eq_getElem hl
  have hi := h.2.1 l[k] (List.getElem_mem hl)
  exact ⟨b, off, l[k], e, hb, hx, hi.1, hi.2, hc _ _ (flat_get0 l k _ hx), hc _ _ (flat_get1 l k _ hx)⟩
theorem Mem.fits {k : Nat} {x : Int × Int} (h : Mem w A n l) (hx : l[k]? = some x) : Inb x.1 ∧ Inb x.2 := h.2.1 x (List.mem_of_getElem? hx)
theorem Mem.take_ (h : Mem w A n l) (k : Nat) (hk : k ≤ n) : Mem w A k (l.take k) :=
  ⟨by rw [List.length_take, h.1]; omega, fun x hx => h.2.1 x (List.mem_of_mem_take hx), fun hn => by
    obtain ⟨b, off, e, hb, hc⟩ := h.2.2 (by omega)
    refine ⟨b, off, e, hb, fun j u hu => hc j u ?_⟩
    rw [flat_take, List.getElem?_take] at hu
    split at hu
    · exact hu
    · cases hu⟩
end
end Go.Proofs.Ytclhdpmlmbicjaa
