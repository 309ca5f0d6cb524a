/-
  Package script: what a number is read as, what picks may be, ticks and shares: of no program.
-/
import Derived.Test.YtclhdpmlmbicjaaMem
namespace Go.Proofs.Ytclhdpmlmbicjaa
open Go.ChangeShapes Go.WideShapes Go.ChangeAt Go.RowKit
set_option linter.unusedVariables false
namespace P13

/-- The longest tick. -/
abbrev top : Int := 4611686018427387904
/-- A pick: its kind, its number. -/
abbrev Pk := Int × Int
/-- The pick that a number is read as. -/
def rd (v : Int) : Pk := if 0 ≤ v then (0, v % 16) else (1, -(max v (-4611686018427387904)))
theorem rd_step {v : Int} (h : 0 ≤ v) : rd v = (0, v % 16) := if_pos h
theorem rd_tick {v : Int} (h : v < 0) : rd v = (1, -(max v (-4611686018427387904))) := if_neg (by omega)
/-- A pick that may be. -/
def okP (p : Pk) : Prop := (p.1 = 0 ∧ 0 ≤ p.2 ∧ p.2 < 16) ∨ (p.1 = 1 ∧ 0 < p.2 ∧ p.2 ≤ 4611686018427387904)
instance (p : Pk) : Decidable (okP p) := by unfold okP; infer_instance
theorem mod16 {v : Int} (h : 0 ≤ v) : 0 ≤ v % 16 ∧ v % 16 < 16 := by omega
theorem rd_ok (v : Int) : okP (rd v) := by
  by_cases h : 0 ≤ v
  · rw [rd_step h]
    have := mod16 h
    exact .inl ⟨rfl, this.1, this.2⟩
  · rw [rd_tick (by omega)]
    refine .inr ⟨rfl, ?_, ?_⟩
    · show 0 < -(max v (-4611686018427387904)); omega
    · show -(max v (-4611686018427387904)) ≤ 4611686018427387904; omega
theorem rd_inb (v : Int) : Inb (rd v).1 ∧ Inb (rd v).2 := by
  have := rd_ok v
  unfold okP at this
  unfold Inb
  omega
/-- The number that is written of a pick. -/
def nm (p : Pk) : Int := if p.1 = 1 then -p.2 else p.2
theorem rd_nm {p : Pk} (h : okP p) : rd (nm p) = p := by
  obtain ⟨k, n⟩ := p
  unfold nm
  rcases h with ⟨h1, h2, h3⟩ | ⟨h1, h2, h3⟩
  · have h1 : k = 0 := h1
    have h2 : 0 ≤ n := h2
    have h3 : n < 16 := h3
    subst h1
    show rd n = _
    rw [rd_step h2, Int.emod_eq_of_lt h2 h3]
  · have h1 : k = 1 := h1
    have h2 : 0 < n := h2
    have h3 : n ≤ 4611686018427387904 := h3
    subst h1
    show rd (-n) = _
    rw [rd_tick (by omega), show max (-n) (-4611686018427387904) = -n from by omega, Int.neg_neg]
theorem rd_kind (v : Int) : (rd v).1 = 0 ↔ 0 ≤ v := by
  by_cases h : 0 ≤ v
  · rw [rd_step h]; simp [h]
  · rw [rd_tick (by omega)]; simp [h]

/-- Its ticks. -/
def tk (v : Int) : Int := if (rd v).1 = 1 then (rd v).2 else 0
theorem tk_nonneg (v : Int) : 0 ≤ tk v := by
  have := rd_ok v
  unfold okP at this
  unfold tk
  split <;> omega
theorem tk_tick {v : Int} (h : (rd v).1 = 1) : tk v = (rd v).2 := if_pos h
theorem tk_step {v : Int} (h : (rd v).1 ≠ 1) : tk v = 0 := if_neg h
def tot : List Int → Int
  | [] => 0
  | v :: r => tk v + tot r
theorem tot_nonneg : ∀ l, 0 ≤ tot l
  | [] => Int.le_refl _
  | v :: r => by have := tk_nonneg v; have := tot_nonneg r; unfold tot; omega
theorem tot_append : ∀ a b, tot (a ++ b) = tot a + tot b
  | [], b => by simp [tot]
  | v :: r, b => by simp only [List.cons_append, tot, tot_append r b]; omega
theorem tot_snoc (a : List Int) (v : Int) : tot (a ++ [v]) = tot a + tk v := by rw [tot_append]; simp [tot]
/-- What Time answers. -/
def TimeR (l : List Int) (r e : Int) : Prop := (tot l ≤ top ∧ r = tot l ∧ e = 0) ∨ (top < tot l ∧ r = 0 ∧ e = 10)
theorem TimeR.any (l : List Int) : ∃ r e, TimeR l r e := by
  by_cases h : tot l ≤ top
  · exact ⟨_, _, .inl ⟨h, rfl, rfl⟩⟩
  · exact ⟨_, _, .inr ⟨by omega, rfl, rfl⟩⟩
/-- Whether it is somebody's step. -/
def his (who v : Int) : Bool := decide (rd v = (0, who))
/-- How many are. -/
def cnt (who : Int) : List Int → Nat
  | [] => 0
  | v :: r => (if his who v = true then 1 else 0) + cnt who r
theorem cnt_append (who : Int) : ∀ a b, cnt who (a ++ b) = cnt who a + cnt who b
  | [], b => by simp [cnt]
  | v :: r, b => by simp only [List.cons_append, cnt, cnt_append who r b]; omega
theorem cnt_snoc (who : Int) (a : List Int) (v : Int) : cnt who (a ++ [v]) = cnt who a + (if his who v = true then 1 else 0) := by rw [cnt_append]; simp [cnt]
theorem cnt_le (who : Int) : ∀ l, cnt who l ≤ l.length
  | [] => Nat.le_refl _
  | v :: r => by have := cnt_le who r; simp only [cnt, List.length_cons]; split <;> omega
theorem take_snoc {l : List Int} {j : Nat} {x : Int} (h : l[j]? = some x) : l.take (j + 1) = l.take j ++ [x] := by rw [List.take_add_one, h]; rfl
end P13
end Go.Proofs.Ytclhdpmlmbicjaa
