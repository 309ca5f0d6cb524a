/-
  []int: a slice of ints as a list of numbers; a row of the call's own; a parameter []int, opened.
-/
import Derived.Test.YtclhdpmlmbicjaaOpenRow
import Derived.Test.YtclhdpmlmbicjaaOwn
import Derived.Deep.RegionHeld3
namespace Go.Proofs.Ytclhdpmlmbicjaa
open Go.ChangeShapes Go.WideShapes Go.ChangeAt Go.RowKit
set_option linter.unusedVariables false

/-- A number that an int holds. -/
def B64 (v : Int) : Prop := -9223372036854775808 ≤ v ∧ v ≤ 9223372036854775807
abbrev IMem := EMem (Value.int .i64) B64
abbrev IOwn := OMem (Value.int .i64) B64
theorem infoInt : (Try.prog.info? 3).map (fun i => (i.zero, i.size, i.bytes)) = some (some (.int .i64 0), 1, 8) := by kernel_rfl
theorem cellsOfInt : Try.prog.cellsOf 3 = 1 := by kernel_rfl
theorem wrap_id {x : Int} (h : -9223372036854775808 ≤ x) (h' : x ≤ 9223372036854775807) : IntKind.i64.wrap x = x := by
  rw [IntKind.wrap_i64]; omega
set_option maxRecDepth 100000 in
theorem open_ints {H : Type} {enc : TypeId × Value → H} {W : World} {base : Nat} {sp : Nat → Bool} {v : Value} {d : DataW H} {ps : List MemPlace}
    (hval : Value.okWide Try.prog W .any base 24 v) (h : DataW.Trod enc Try.prog W 0 sp true 24 v d ps) :
    ∃ (A : Option Addr) (n c : Nat) (l : List Int), v = .slice A n c ∧ n ≤ c ∧ n ≤ 9223372036854775807 ∧ IMem W A n l :=
  open_emem Try.underlying24 cellsOfInt (fun m cs y hy => by
    obtain ⟨b, rfl, _, hb⟩ := DataW.trod_int Try.underlying3 hy
    exact ⟨b, rfl, wfb hb⟩) hval h

section
variable {α : Type} {enc : α → Value} {ok : α → Prop} {base : Nat} {w w' : World} {A : Option Addr} {n c : Nat} {l : List α}
theorem OMem.lt (h : OMem enc ok base w A n c l) : ∀ k, A.map (·.block) = some k → base ≤ k ∧ k < w.heap.size := by
  intro k hk
  rcases h.2.2.2 with ⟨rfl, _⟩ | ⟨b, off, rfl, h5, h6, _⟩
  · cases hk
  · cases hk
    exact ⟨h5, h6⟩
theorem OMem.low {b2 : Nat} (h : OMem enc ok base w A n c l) (hb : b2 ≤ base) : OMem enc ok b2 w A n c l := by
  refine ⟨h.1, h.2.1, h.2.2.1, ?_⟩
  rcases h.2.2.2 with h1 | ⟨b, off, e, h5, h6⟩
  · exact .inl h1
  · exact .inr ⟨b, off, e, Nat.le_trans hb h5, h6⟩
theorem emem_one (w : World) (x : α) (hx : ok x) (t : TypeId) : EMem enc ok (w.alloc (.cells #[enc x] t)) (some ⟨w.heap.size, 0, none⟩) 1 [x] :=
  ⟨rfl, fun y hy => by simp at hy; subst hy; exact hx, fun _ => ⟨_, 0, rfl, by simp, fun j u hu => by
    match j, hu with
    | 0, hu => simp at hu; subst hu; simp⟩⟩
theorem emem_one' (w : World) (x : α) (hx : ok x) (t : TypeId) {s : Nat} (hs : w.heap.size = s) : EMem enc ok (w.alloc (.cells #[enc x] t)) (some ⟨s, 0, none⟩) 1 [x] := hs ▸ emem_one w x hx t
theorem emem_two (w : World) (x y : α) (hx : ok x) (hy : ok y) (t : TypeId) : EMem enc ok (w.alloc (.cells #[enc x, enc y] t)) (some ⟨w.heap.size, 0, none⟩) 2 [x, y] :=
  ⟨rfl, fun z hz => by simp at hz; rcases hz with rfl | rfl <;> assumption, fun _ => ⟨_, 0, rfl, by simp, fun j u hu => by
    match j, hu with
    | 0, hu => simp at hu; subst hu; simp
    | 1, hu => simp at hu; subst hu; simp⟩⟩
/-- Blocks that are not one. -/
def Off (A R : Option Addr) : Prop := ∀ k, A.map (·.block) = some k → R.map (·.block) = some k → False
theorem Off.nil (A : Option Addr) : Off A none := fun k _ h => by cases h
theorem Off.new {base : Nat} {w : World} {A C : Option Addr} {n c : Nat} {l : List α} (h : OMem enc ok base w A n c l) (hC : ∀ k, C.map (·.block) = some k → w.heap.size ≤ k) : Off C A := fun k h1 h2 => by
  have h3 := hC k h1
  have h4 := (h.lt k h2).2
  omega
/-- Off what a row has become, too. -/
theorem Off.step {C R R' : Option Addr} {B : Nat} (h : Off C R) (hC : ∀ k, C.map (·.block) = some k → k < B) (hR : ∀ k, R'.map (·.block) = some k → R.map (·.block) = some k ∨ B ≤ k) : Off C R' := fun k h1 h2 => by
  rcases hR k h2 with h3 | h3
  · exact h k h1 h3
  · have := hC k h1; omega
theorem EMem.lt (h : EMem enc ok w A n l) (hn : 0 < n) : ∃ k, A.map (·.block) = some k ∧ k < w.heap.size := by
  obtain ⟨b, off, rfl, hb, _⟩ := h.2.2 hn
  exact ⟨b, rfl, hb⟩
/-- What lies in another block stays, where a row grew. -/
theorem EMem.gb {R : Option Addr} (h : EMem enc ok w A n l) (hg : w.grownBy w' (R.map (·.block))) (ho : Off A R) : EMem enc ok w' A n l :=
  ⟨h.1, h.2.1, fun hn => by
    obtain ⟨b, off, rfl, hb, hc⟩ := h.2.2 hn
    refine ⟨b, off, rfl, Nat.lt_of_lt_of_le hb hg.size, fun j u hu => ?_⟩
    exact (World.cell?_of_block (a := ⟨b, off + j, none⟩) (hg.block b hb (fun e => ho b rfl e.symm))).trans (hc j u hu)⟩
theorem OMem.gb2 {R : Option Addr} (h : OMem enc ok base w A n c l) (hg : w.grownBy w' (R.map (·.block))) (ho : Off A R) : OMem enc ok base w' A n c l := by
  refine ⟨h.1.gb hg ho, h.2.1, h.2.2.1, ?_⟩
  rcases h.2.2.2 with h1 | ⟨b, off, rfl, h5, h6, h7⟩
  · exact .inl h1
  · have e := hg.block b h6 (fun e => ho b rfl e.symm)
    refine .inr ⟨b, off, rfl, h5, Nat.lt_of_lt_of_le h6 hg.size, fun j hj => ?_⟩
    rw [World.cell?_of_block (a := ⟨b, off + j, none⟩) e, World.frozen?_of_block (a := ⟨b, off + j, none⟩) e]
    exact h7 j hj
/-- An empty row. -/
theorem omem_empty (w : World) (t : TypeId) {base : Nat} (hb : base ≤ w.heap.size) : OMem enc ok base (w.alloc (.cells #[] t)) (some ⟨w.heap.size, 0, none⟩) 0 0 [] :=
  ⟨EMem.nil_, Nat.le_refl _, Nat.zero_le _, .inr ⟨_, 0, rfl, hb, by simp, fun j hj => absurd hj (by omega)⟩⟩
theorem frozen_new (w : World) (cs : Array Value) (t : TypeId) (o : Nat) : (w.alloc (.cells cs t)).frozen? ⟨w.heap.size, o, none⟩ = false := by
  unfold World.frozen?
  show (match (w.alloc (.cells cs t)).heap[w.heap.size]? with | some (.cells c elem (lo, hi)) => decide (lo ≤ o) && decide (o < hi) | _ => false) = false
  rw [heap_alloc_new w (.cells cs t)]
  simp
/-- A row of one. -/
theorem omem_one (w : World) (x : α) (hx : ok x) (t : TypeId) {base : Nat} (hb : base ≤ w.heap.size) : OMem enc ok base (w.alloc (.cells #[enc x] t)) (some ⟨w.heap.size, 0, none⟩) 1 1 [x] :=
  ⟨emem_one w x hx t, Nat.le_refl _, by unfold maxLen; omega, .inr ⟨_, 0, rfl, hb, by simp, fun j hj => by
    obtain rfl : j = 0 := by omega
    exact ⟨by simp, frozen_new w _ t _⟩⟩⟩
end
end Go.Proofs.Ytclhdpmlmbicjaa
