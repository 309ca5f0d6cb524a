/-
  Goroutines: rows of them in memory; what a row may be, and what becomes of it.
-/
import Derived.Test.YtgloccbcbgpneaaInts
import Derived.Test.YtgloccbcbgpneaaBlk
import Derived.Test.YtgloccbcbgpneaaCopyN
import Derived.Deep.SlicePairs
import Derived.Deep.QuietTactic
import Derived.BigQuiet
import Derived.Outline
namespace Go.Proofs.Ytgloccbcbgpneaa
open Go.ChangeShapes Go.WideShapes Go.ChangeAt Go.RowKit Go.Deep
set_option linter.unusedVariables false
namespace P11

/-- A goroutine: its state, and whether it has a permit. -/
abbrev G := Int × Bool
def flat : List G → List Value
  | [] => []
  | x :: r => .int .i64 x.1 :: .bool x.2 :: flat r
theorem flat_len (l : List G) : (flat l).length = l.length * 2 := by
  induction l with
  | nil => rfl
  | cons x r ih => simp [flat, ih]; omega
theorem flat_get0 : ∀ (l : List G) (i : Nat) (x : G), l[i]? = some x → (flat l)[i * 2]? = some (.int .i64 x.1)
  | [], i, x, h => by simp at h
  | y :: r, 0, x, h => by simp at h; subst h; rfl
  | y :: r, i + 1, x, h => by
    rw [show (i + 1) * 2 = i * 2 + 1 + 1 from by omega]
    simpa [flat] using flat_get0 r i x (by simpa using h)
theorem flat_get1 : ∀ (l : List G) (i : Nat) (x : G), l[i]? = some x → (flat l)[i * 2 + 1]? = some (.bool x.2)
  | [], i, x, h => by simp at h
  | y :: r, 0, x, h => by simp at h; subst h; rfl
  | y :: r, i + 1, x, h => by
    rw [show (i + 1) * 2 + 1 = i * 2 + 1 + 1 + 1 from by omega]
    simpa [flat] using flat_get1 r i x (by simpa using h)
theorem flat_one (l : List G) : ∀ u ∈ flat l, u.oneCell' = true := by
  induction l with
  | nil => simp [flat]
  | cons x r ih =>
    intro u hu
    simp only [flat, List.mem_cons] at hu
    rcases hu with rfl | rfl | hu
    · rfl
    · rfl
    · exact ih u hu
theorem flat_append (l m : List G) : flat (l ++ m) = flat l ++ flat m := by
  induction l with
  | nil => rfl
  | cons x r ih => simp [flat, ih]
theorem flat_take (l : List G) (k : Nat) : flat (l.take k) = (flat l).take (k * 2) := by
  induction l generalizing k with
  | nil => simp [flat]
  | cons x r ih =>
    cases k with
    | zero => simp [flat]
    | succ k => rw [show (k + 1) * 2 = k * 2 + 1 + 1 from by omega]; simp [flat, ih]
theorem flat_set1 : ∀ (l : List G) (i : Nat) (x : G) (v : Int), l[i]? = some x → flat (l.set i (v, x.2)) = (flat l).set (i * 2) (.int .i64 v)
  | [], i, x, v, h => by simp at h
  | y :: r, 0, x, v, h => by simp at h; subst h; rfl
  | y :: r, i + 1, x, v, h => by
    rw [show (i + 1) * 2 = i * 2 + 1 + 1 from by omega]
    simpa [flat] using flat_set1 r i x v (by simpa using h)
theorem flat_set2 : ∀ (l : List G) (i : Nat) (x : G) (v : Bool), l[i]? = some x → flat (l.set i (x.1, v)) = (flat l).set (i * 2 + 1) (.bool v)
  | [], i, x, v, h => by simp at h
  | y :: r, 0, x, v, h => by simp at h; subst h; rfl
  | y :: r, i + 1, x, v, h => by
    rw [show (i + 1) * 2 + 1 = i * 2 + 1 + 1 + 1 from by omega]
    simpa [flat] using flat_set2 r i x v (by simpa using h)
theorem flat_inv : ∀ (l : List G) (j : Nat) (u : Value), (flat l)[j]? = some u → ∃ i x, l[i]? = some x ∧ ((j = i * 2 ∧ u = .int .i64 x.1) ∨ (j = i * 2 + 1 ∧ u = .bool x.2))
  | [], j, u, h => by simp [flat] at h
  | x :: r, 0, u, h => by simp [flat] at h; exact ⟨0, x, rfl, .inl ⟨rfl, h.symm⟩⟩
  | x :: r, 1, u, h => by simp [flat] at h; exact ⟨0, x, rfl, .inr ⟨rfl, h.symm⟩⟩
  | x :: r, j + 2, u, h => by
    obtain ⟨i, y, hy, h⟩ := flat_inv r j u (by simpa [flat] using h)
    refine ⟨i + 1, y, by simpa using hy, ?_⟩
    rcases h with ⟨rfl, rfl⟩ | ⟨rfl, rfl⟩
    · exact .inl ⟨by omega, rfl⟩
    · exact .inr ⟨by omega, rfl⟩

/-- The slice at A, of n goroutines, reads as l. -/
def GMem (w : World) (A : Option Addr) (n : Nat) (l : List G) : Prop :=
  l.length = n ∧ (∀ x ∈ l, B64 x.1) ∧ (0 < n → ∃ b off, A = some ⟨b, off, none⟩ ∧ b < w.heap.size ∧ ∀ j u, (flat l)[j]? = some u → w.cell? ⟨b, off + j, none⟩ = some u)
/-- It lies in a block from B on. -/
def Late (B : Nat) (A : Option Addr) : Prop := ∀ k, A.map (·.block) = some k → B ≤ k

section
variable {w w' : World} {A : Option Addr} {n : Nat} {l : List G}
theorem GMem.nil_ : GMem w A 0 [] := ⟨rfl, by simp, fun h => absurd h (by omega)⟩
theorem GMem.len (h : GMem w A n l) : l.length = n := h.1
theorem GMem.gr (h : GMem w A n l) (g : Gr w w') : GMem w' A n l :=
  ⟨h.1, h.2.1, fun hn => by
    obtain ⟨b, off, e, hb, hc⟩ := h.2.2 hn
    exact ⟨b, off, e, Nat.lt_of_lt_of_le hb g.size, fun j u hu => (g.cell (p := ⟨b, off + j, none⟩) hb).trans (hc j u hu)⟩⟩
theorem GMem.at_ {k : Nat} (h : GMem w A n l) (hk : k < n) :
    ∃ b off x, A = some ⟨b, off, none⟩ ∧ b < w.heap.size ∧ l[k]? = some x ∧ B64 x.1 ∧ w.cell? ⟨b, off + k * 2, none⟩ = some (.int .i64 x.1) ∧ w.cell? ⟨b, off + k * 2 + 1, none⟩ = some (.bool x.2) := by
  obtain ⟨b, off, e, hb, hc⟩ := h.2.2 (by omega)
  have hl : k < l.length := by have := h.1; omega
  have hx : l[k]? = some l[k] := List.getElem?_eq_getElem hl
  exact ⟨b, off, l[k], e, hb, hx, h.2.1 l[k] (List.getElem_mem hl), hc _ _ (flat_get0 l k _ hx), hc _ _ (flat_get1 l k _ hx)⟩
theorem GMem.take_ (h : GMem w A n l) (k : Nat) (hk : k ≤ n) : GMem w A k (l.take k) :=
  ⟨by rw [List.length_take, h.1]; omega, fun x hx => h.2.1 x (List.mem_of_mem_take hx), fun hn => by
    obtain ⟨b, off, e, hb, hc⟩ := h.2.2 (by omega)
    refine ⟨b, off, e, hb, fun j u hu => hc j u ?_⟩
    rw [flat_take, List.getElem?_take] at hu
    split at hu
    · exact hu
    · cases hu⟩
/-- A store into another block leaves it. -/
theorem GMem.st (h : GMem w A n l) {p : Addr} (hp : ∀ k, A.map (·.block) = some k → k ≠ p.block) (v : Value) : GMem (w.setCell p v) A n l :=
  ⟨h.1, h.2.1, fun hn => by
    obtain ⟨b, off, rfl, hb, hc⟩ := h.2.2 hn
    refine ⟨b, off, rfl, by simpa using hb, fun j u hu => ?_⟩
    rw [← hc j u hu]
    exact World.cell?_of_block (a := ⟨b, off + j, none⟩) (Below.heap_setCell w p v b (hp b rfl))⟩
/-- A whole block reads. -/
theorem GMem.of_blk {g : Nat} {vs : Array Value} {t : TypeId} (h : Blk w g vs t) (hv : vs.toList = flat l) (hb : ∀ x ∈ l, B64 x.1) : GMem w (some ⟨g, 0, none⟩) l.length l :=
  ⟨rfl, hb, fun _ => ⟨g, 0, rfl, h.lt, fun j u hu => by
    rw [Nat.zero_add]
    refine (h.at_ ?_).1
    rw [← hv] at hu
    simpa using hu⟩⟩
end

theorem cellsOfGor : Try.prog.cellsOf 40 = 2 := by kernel_rfl
theorem cellsOfBool : Try.prog.cellsOf 4 = 1 := by kernel_rfl
theorem infoGor : (Try.prog.info? 40).map (fun i => (i.zero, i.size, i.bytes)) = some (some (.agg #[.int .i64 0, .bool false]), 2, 16) := by kernel_rfl

set_option maxRecDepth 100000 in
theorem open_gors {H : Type} {enc : TypeId × Value → H} {W : World} {base : Nat} {sp : Nat → Bool} {v : Value} {d : DataW H} {ps : List MemPlace}
    (hval : Value.okWide Try.prog W .any base 22 v) (h : DataW.Trod enc Try.prog W 0 sp true 22 v d ps) :
    ∃ (A : Option Addr) (n c : Nat) (l : List G), v = .slice A n c ∧ n ≤ c ∧ n ≤ 9223372036854775807 ∧ GMem W A n l := by
  obtain ⟨a0, len, cap, rfl⟩ := okWide_slice Try.underlying22 hval
  obtain ⟨fuel, hf⟩ := h
  rcases open_slice_pairs Try.underlying22 Try.underlying40 cellsOfGor rfl rfl cellsOfInt cellsOfBool hf with ⟨hcs, hx⟩ | ⟨a, len', cap', m, k, V0, V1, D0, D1, P0, P1, hcs, _, hl, hm, hmm, hx, hcell⟩
  · simp [Value.cells] at hcs
    obtain ⟨rfl, rfl, rfl⟩ := hcs
    exact ⟨none, 0, 0, [], rfl, by omega, by omega, GMem.nil_⟩
  · simp [Value.cells] at hcs
    obtain ⟨rfl, rfl, rfl⟩ := hcs
    unfold maxLen at hm
    have hlm : len ≤ m := by rw [hmm]; split <;> omega
    have each : ∀ i, i < len → ∃ q : G, W.cell? (a.add (i * 2)) = some (.int .i64 q.1) ∧ W.cell? (a.add (i * 2 + 1)) = some (.bool q.2) ∧ B64 q.1 := by
      intro i hi
      obtain ⟨c0, c1, t0, t1⟩ := hcell i (by omega)
      obtain ⟨x, e0, _, w0⟩ := DataW.trod_int Try.underlying3 t0
      obtain ⟨y, e1, _⟩ := DataW.trod_bool Try.underlying4 t1
      simp only [List.cons.injEq, and_true] at e0 e1
      rw [e0] at c0
      rw [e1] at c1
      exact ⟨(x, y), c0, c1, bounds_i64 w0⟩
    obtain ⟨q, hq⟩ := choose_lt each
    refine ⟨some a, len, cap, (List.range len).map q, rfl, hl, by omega, by simp, ?_, ?_⟩
    · intro x hx
      simp only [List.mem_map, List.mem_range] at hx
      obtain ⟨i, hi, rfl⟩ := hx
      exact (hq i hi).2.2
    · intro h0
      obtain ⟨b, off, spot⟩ := a
      have hspot : spot = none := by simpa [Addr.add] using World.cell?_spot (hq 0 h0).1
      subst hspot
      refine ⟨b, off, rfl, World.block_lt_of_cell? W _ (by simpa [Addr.add] using (hq 0 h0).1), fun j u hu => ?_⟩
      obtain ⟨i, x, hx, h⟩ := flat_inv _ j u hu
      have hi : i < len := by have := (List.getElem?_eq_some_iff.1 hx).1; simpa using this
      have hxq : x = q i := by simpa [hi] using hx.symm
      subst hxq
      rcases h with ⟨rfl, rfl⟩ | ⟨rfl, rfl⟩
      · have := (hq i hi).1; rwa [add_plain] at this
      · have := (hq i hi).2.1; rwa [add_plain] at this

/-! What may be, and what becomes of it. -/
def okG (x : G) : Bool := decide (0 ≤ x.1) && decide (x.1 ≤ 2) && (!x.2 || x.1 == 0)
def rightB (l : List G) : Bool := decide (l.length ≤ 8) && l.all okG
/-- What a change answers of one: an error, or 0 and what it is then. -/
def pkG (x : G) : Int × G := if x.1 = 0 then (0, (if x.2 then 0 else 1, false)) else (6, x)
def rdG (x : G) : Int × G := if x.1 = 2 then (6, x) else if x.2 then (7, x) else (0, (0, x.1 == 0))
def enG (x : G) : Int × G := if x.1 = 0 then (0, (2, false)) else (6, x)
/-- What a change answers of a row: the error, the row. -/
def outc (p : G → Int × G) (l : List G) (who : Int) : Int × List G :=
  if rightB l = false then (1, []) else if who < 0 then (3, []) else
  match l[who.toNat]? with
  | none => (3, [])
  | some x => if (p x).1 = 0 then (0, l.set who.toNat (p x).2) else ((p x).1, [])
theorem outc_arg {p : G → Int × G} {l : List G} {who : Int} (h : rightB l = false) : outc p l who = (1, []) := by simp [outc, h]
theorem outc_range {p : G → Int × G} {l : List G} {who : Int} (h : rightB l = true) (hw : who < 0 ∨ (l.length : Int) ≤ who) : outc p l who = (3, []) := by
  unfold outc
  rw [if_neg (by simp [h])]
  split
  · rfl
  · rw [List.getElem?_eq_none (by omega)]
theorem outc_at {p : G → Int × G} {l : List G} {k : Nat} {x : G} (h : rightB l = true) (hx : l[k]? = some x) :
    outc p l (k : Int) = if (p x).1 = 0 then (0, l.set k (p x).2) else ((p x).1, []) := by
  unfold outc
  rw [if_neg (by simp [h]), if_neg (by omega), Int.toNat_natCast, hx]
end P11
end Go.Proofs.Ytgloccbcbgpneaa
