/-
  A row of floats that is sorted in place: its cells, what an exchange leaves; the comparison that order.Sort hands in.
-/
import Derived.Test.YthldaebinchpdaaOrderAllFn
import Derived.Test.YthldaebinchpdaaSortMath
import Derived.BigRegion
import Derived.IntWalk
namespace Go.Proofs.Ythldaebinchpdaa
open Go.ChangeShapes Go.WideShapes Go.ChangeAt Go.RowKit
set_option linter.unusedVariables false

/-- Block g holds l. -/
def RowAt (w : World) (g : Nat) (l : List Nat) : Prop :=
  (∀ x ∈ l, F64 x) ∧ ∃ cur : Array Value, w.heap[g]? = some (.cells cur 22 (0, 0)) ∧ l.length ≤ cur.size ∧ ∀ (i x : Nat), l[i]? = some x → cur[i]? = some (Value.float .f64 x)
section
variable {w w' : World} {g : Nat} {l : List Nat}
theorem G_some {i : Nat} (h : i < l.length) : l[i]? = some (G l i) := by rw [G_lt h]; exact List.getElem?_eq_getElem h
theorem RowAt.F (h : RowAt w g l) (i : Nat) : F64 (G l i) := by
  by_cases hi : i < l.length
  · exact h.1 _ (by rw [G_lt hi]; exact List.getElem_mem hi)
  · unfold G; rw [List.getD_eq_getElem?_getD, List.getElem?_eq_none (by omega)]; exact f_0
theorem RowAt.lt (h : RowAt w g l) : g < w.heap.size := by
  obtain ⟨_, cur, hg, _⟩ := h
  exact (Array.getElem?_eq_some_iff.1 hg).1
theorem RowAt.cell (h : RowAt w g l) {i : Nat} (hi : i < l.length) : w.cell? ⟨g, i, none⟩ = some (.float .f64 (G l i)) := by
  obtain ⟨_, cur, hg, hs, hc⟩ := h
  rw [cell_of_row w g i cur _ (0, 0) hg]
  exact hc i _ (G_some hi)
theorem RowAt.frozen (h : RowAt w g l) (i : Nat) : w.frozen? ⟨g, i, none⟩ = false := by
  obtain ⟨_, cur, hg, hs, hc⟩ := h
  simp [World.frozen?, hg]
/-- Nothing but the row's block is written. -/
def Onl (g : Nat) (w w' : World) : Prop := w.grownBy w' (some g)
theorem Onl.refl (g : Nat) (w : World) : Onl g w w := World.grownBy.refl w _
theorem Onl.trans {a b c : World} (h : Onl g a b) (k : Onl g b c) : Onl g a c :=
  ⟨k.os.trans h.os, k.tape.trans h.tape, k.output.trans h.output, Nat.le_trans h.size k.size, fun i hi hn => (k.block i (Nat.lt_of_lt_of_le hi h.size) hn).trans (h.block i hi hn)⟩
theorem Onl.dr {a b : World} (h : Onl g a b) : Onl g a b.drew := ⟨h.os, h.tape, h.output, h.size, h.block⟩
theorem Onl.drN {a b : World} (h : Onl g a b) (n : Nat) : Onl g a (b.drewN n) := ⟨h.os, h.tape, h.output, h.size, h.block⟩
theorem Onl.st {a b : World} (h : Onl g a b) (i : Nat) (v : Value) : Onl g a (b.setCell ⟨g, i, none⟩ v) :=
  ⟨h.os, h.tape, h.output, by simpa [World.setCell] using h.size, fun k hk hn => by
    rw [← h.block k hk hn]
    have hne : k ≠ g := fun e => hn (by rw [e])
    exact Below.heap_setCell b ⟨g, i, none⟩ v k hne⟩
theorem Onl.box (h : Onl g w w') {b : Nat} {v : Value} (hb : w.cell? ⟨b, 0, none⟩ = some v) (hne : b ≠ g) : w'.cell? ⟨b, 0, none⟩ = some v :=
  World.grownBy.cell h hb (by intro e; exact hne (Option.some.inj e))
theorem RowAt.dr (h : RowAt w g l) : RowAt w.drew g l := h
theorem RowAt.drN (h : RowAt w g l) (n : Nat) : RowAt (w.drewN n) g l := h
theorem RowAt.set (h : RowAt w g l) {i x : Nat} (hi : i < l.length) (hx : F64 x) : RowAt (w.setCell ⟨g, i, none⟩ (.float .f64 x)) g (l.set i x) := by
  obtain ⟨hF, cur, hg, hs, hc⟩ := h
  refine ⟨fun y hy => ?_, cur.setIfInBounds i (.float .f64 x), ?_, ?_, fun j y hy => ?_⟩
  · rcases List.mem_or_eq_of_mem_set hy with h | rfl
    · exact hF y h
    · exact hx
  · simp [World.setCell, Array.getElem?_modify, hg]
  · rw [List.length_set, Array.size_setIfInBounds]; exact hs
  · rw [List.getElem?_set] at hy
    rw [Array.getElem?_setIfInBounds]
    by_cases e : i = j
    · subst e
      rw [if_pos rfl, if_pos hi] at hy
      rw [if_pos rfl, if_pos (by omega)]
      exact congrArg _ (congrArg _ (Option.some.inj hy))
    · rw [if_neg e] at hy ⊢
      exact hc j y hy
/-- AN EXCHANGE. -/
theorem RowAt.swap (h : RowAt w g l) {i j : Nat} (hi : i < l.length) (hj : j < l.length) :
    RowAt ((w.setCell ⟨g, i, none⟩ (.float .f64 (G l j))).setCell ⟨g, j, none⟩ (.float .f64 (G l i))) g (swp l i j) :=
  (h.set hi (h.F j)).set (by rw [List.length_set]; exact hj) (h.F i)
theorem RowAt.cell2 (h : RowAt w g l) {i j : Nat} (hi : i < l.length) (hj : j < l.length) (v : Value) : ∃ u, (w.setCell ⟨g, i, none⟩ v).cell? ⟨g, j, none⟩ = some u := by
  by_cases e : i = j
  · subst e; exact ⟨v, World.cell?_setCell_same _ _ _ (h.cell hi)⟩
  · exact ⟨_, (World.cell?_setCell_other _ _ _ _ (by intro e'; simp only [Addr.mk.injEq] at e'; omega)).trans (h.cell hj)⟩
end

/-- What the comparison tells. -/
def cmpv (a b : Nat) : Int := if ahd a b then -1 else if ahd b a then 1 else 0
theorem cmpv_lt (a b : Nat) : decide (cmpv a b < 0) = ahd a b := by
  unfold cmpv
  cases h : ahd a b
  · cases ahd b a <;> rfl
  · rfl
theorem cmpv_t {a b : Nat} (h : key a < key b) : decide (cmpv a b < 0) = true := by rw [cmpv_lt]; exact ahd_iff.2 h
theorem cmpv_f {a b : Nat} (h : key b ≤ key a) : decide (cmpv a b < 0) = false := by rw [cmpv_lt]; exact ahd_not.2 h
/-- The comparison's closure, its box at block hb. -/
abbrev cmpF (hb : Nat) : Value := .func (.func 27) #[] #[.pointer (some ⟨hb, 0, none⟩)]
/-- The box holds Ahead. -/
def Box (w : World) (hb : Nat) : Prop := w.cell? ⟨hb, 0, none⟩ = some (.func (.func 12) #[] #[])
theorem Box.dr {w : World} {hb : Nat} (h : Box w hb) : Box w.drew hb := h
theorem Box.drN {w : World} {hb : Nat} (h : Box w hb) (n : Nat) : Box (w.drewN n) hb := h
theorem Box.onl {w w' : World} {hb g : Nat} (h : Box w hb) (o : Onl g w w') (hne : hb ≠ g) : Box w' hb := o.box h hne
set_option maxHeartbeats 1000000 in
theorem cmp_ok (a b hb : Nat) (ha : F64 a) (hbb : F64 b) (w : World) (hx : Box w hb) :
    Calls Try.prog 27 #[.float .f64 a, .float .f64 b, .pointer (some ⟨hb, 0, none⟩)] w fun e w' => e = .returned (.int .i64 (cmpv a b)) ∧ w' = w := by
  have c1 := fun w => Lib.hid (Ahead_ok a b ha hbb w)
  have c2 := fun w => Lib.hid (Ahead_ok b a hbb ha w)
  have e : (ahd a b = true ∧ cmpv a b = -1) ∨ (ahd a b = false ∧ ahd b a = true ∧ cmpv a b = 1) ∨ (ahd a b = false ∧ ahd b a = false ∧ cmpv a b = 0) := by
    unfold cmpv
    cases ahd a b <;> cases ahd b a <;> simp
  unfold Box at hx
  generalize ahd a b = x at *
  generalize ahd b a = y at *
  generalize cmpv a b = z at *
  rcases e with ⟨rfl, rfl⟩ | ⟨rfl, rfl, rfl⟩ | ⟨rfl, rfl, rfl⟩
  · go_enter Try.func27, Try.ntmps27
    go_wp2_with fail
    refine (c1 _).out.mono ?_
    rintro e w1 ⟨rfl, rfl⟩
    go_wp2_with fail
    go_ret
    exact ⟨rfl, rfl⟩
  all_goals (
    go_enter Try.func27, Try.ntmps27
    go_wp2_with fail
    refine (c1 _).out.mono ?_
    rintro e w1 ⟨rfl, rfl⟩
    go_wp2_with fail
    refine (c2 _).out.mono ?_
    rintro e w2 ⟨rfl, rfl⟩
    go_wp2_with fail
    go_ret
    exact ⟨rfl, rfl⟩)

/-- What a function that sorts in place leaves. -/
def Left (g : Nat) (w : World) (Q : List Nat → Prop) (e : Ending) (w' : World) : Prop := e = .returned (.tuple #[]) ∧ ∃ l', RowAt w' g l' ∧ Onl g w w' ∧ Q l'

end Go.Proofs.Ythldaebinchpdaa
