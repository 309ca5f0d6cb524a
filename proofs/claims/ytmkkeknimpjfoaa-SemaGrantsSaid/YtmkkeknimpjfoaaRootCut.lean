/-
  What the laws cut tables to; a row of spots behind writes elsewhere.
-/
import Derived.Test.YtmkkeknimpjfoaaRootRefD
namespace Go.Proofs.Ytmkkeknimpjfoaa
open Go.ChangeShapes Go.WideShapes Go.ChangeAt Go.RowKit
set_option linter.unusedVariables false
set_option linter.unusedSimpArgs false

/-- A spot whose line is cut. -/
def cutS (x : SV) : SV := ⟨x.addr, x.cnt, x.A, if 70 < x.n then 70 else x.n, x.c, x.line.take 70⟩
theorem cutS.ok {w : World} {x : SV} (h : x.ok w) : (cutS x).ok w := by
  have hl := h.len
  refine ⟨h.1, h.2.1, ?_, ?_, h.2.2.2.2⟩
  · show IMem w x.A (if 70 < x.n then 70 else x.n) (x.line.take 70)
    by_cases h70 : 70 < x.n
    · rw [if_pos h70]; exact h.2.2.1.take_ 70 (by omega)
    · rw [if_neg h70, List.take_of_length_le (by omega)]; exact h.2.2.1
  · show (if 70 < x.n then 70 else x.n) ≤ x.c
    have := h.2.2.2.1
    split <;> omega
theorem cutS.len (x : SV) : (cutS x).line.length ≤ 70 := by
  show (x.line.take 70).length ≤ 70
  rw [List.length_take]; omega
/-- What few hands back. -/
def fewL (L : List SV) : List SV := (L.take 70).map cutS
theorem fewL_len (L : List SV) : (fewL L).length ≤ 70 := by unfold fewL; rw [List.length_map, List.length_take]; omega
section
variable {w : World} {A : Option Addr} {n c : Nat} {L : List SV}
theorem fewL_ok {w0 : World} (hm0 : SMem w0 A n L) : ∀ x ∈ fewL L, x.ok w0 := fun y hy => by
  obtain ⟨x, hx, rfl⟩ := List.mem_map.1 hy
  exact cutS.ok (hm0.2.1 x (List.mem_of_mem_take hx))
end
theorem grownBy_cell (W : World) (b o : Nat) (v : Value) : W.grownBy (W.setCell ⟨b, o, none⟩ v) (some b) :=
  ⟨rfl, rfl, rfl, by simp [World.setCell], fun k _ hk => Below.heap_setCell _ _ _ k (fun e => hk (by rw [e]))⟩
theorem srow_cell {W : World} {base n : Nat} {v : Value} {l : List SV} (h : SRow W base v n l) {b o : Nat} (hb : b < base) (u : Value) : SRow (W.setCell ⟨b, o, none⟩ u) base v n l :=
  h.kept (grownBy_cell W b o u) (by
    cases h0 : v.ownBlock with
    | none => exact .inl rfl
    | some g =>
      right
      intro e
      cases e
      rcases h.2 with ⟨rfl, _⟩ | ⟨g', c', cur, rfl, hb', _⟩
      · cases h0
      · simp only [Value.ownBlock] at h0
        cases h0
        omega)
theorem srow_gr2 {W W' : World} {base n : Nat} {v : Value} {l : List SV} (h : SRow W base v n l) (hg : Gr W W') : SRow W' base v n l :=
  h.kept (row := none) ⟨hg.os, hg.tape, hg.output, hg.size, fun k hk _ => hg.block k hk⟩ (by
    cases h0 : v.ownBlock with
    | none => exact .inl rfl
    | some g => exact .inr (by simp))
/-- A spot is put into a variable. -/
theorem spot_stored {W : World} {b : Nat} {vs : Array Value} {t : TypeId} (h : Blk W b vs t) (h3 : vs.size = 3) (x y z : Value) :
    Blk (((W.setCell ⟨b, 0, none⟩ x).setCell ⟨b, 1, none⟩ y).setCell ⟨b, 2, none⟩ z) b #[x, y, z] t := by
  have h2 := ((h.set 0 x).set 1 y).set 2 z
  have e : ((vs.setIfInBounds 0 x).setIfInBounds 1 y).setIfInBounds 2 z = #[x, y, z] := by
    match vs, h3 with
    | ⟨[p, q, r]⟩, _ => rfl
  rw [e] at h2
  exact h2
end Go.Proofs.Ytmkkeknimpjfoaa
