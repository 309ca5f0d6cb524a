/-
  How the reference goes through a tree. Of no program.
-/
import Derived.Test.YtpblonfcdnephaaTreapShape
namespace Go.Proofs.Ytpblonfcdnephaa
set_option linter.unusedVariables false

/-- What its walk comes to: a tree and how many are left, or none. -/
inductive Wk (l : List Nd) : Int → Nat → Option (T × Nat) → Prop
  | nil (m : Nat) : Wk l (-1) m (some (.nil, m))
  | out (a : Int) (m : Nat) : a ≠ -1 → (a < 0 ∨ (0 ≤ a ∧ (l.length : Int) ≤ a) ∨ (0 ≤ a ∧ a < (l.length : Int) ∧ m = 0)) → Wk l a m none
  | left (i : Nat) (nd : Nd) (m : Nat) : l[i]? = some nd → Wk l nd.left m none → Wk l i (m + 1) none
  | right (i : Nat) (nd : Nd) (m : Nat) (L : T) (x : Nat) : l[i]? = some nd → x ≤ m → L.size ≤ m → Wk l nd.left m (some (L, x)) → Wk l nd.right x none → Wk l i (m + 1) none
  | both (i : Nat) (nd : Nd) (m : Nat) (L : T) (x : Nat) (R : T) (y : Nat) : l[i]? = some nd → x ≤ m → L.size ≤ m → R.size ≤ m → Wk l nd.left m (some (L, x)) → Wk l nd.right x (some (R, y)) → Wk l i (m + 1) (some (.node i nd.key L R, y))
theorem wk_ex (l : List Nd) : ∀ (m : Nat) (a : Int), ∃ o, Wk l a m o ∧ (∀ t y, o = some (t, y) → Lay l t a ∧ t.size + y = m) ∧ (o = none → ∀ t, Lay l t a → m < t.size) := by
  intro m
  induction m using Nat.strongRecOn with
  | _ m ih =>
    intro a
    by_cases h1 : a = -1
    · subst h1
      exact ⟨_, .nil m, fun t y h => by cases h; exact ⟨rfl, by simp [T.size]⟩, fun h => (by cases h)⟩
    by_cases h2 : a < 0 ∨ (0 ≤ a ∧ (l.length : Int) ≤ a)
    · exact ⟨none, .out a m h1 (by omega), fun t y h => (by cases h), fun _ t ht => by have := ht.bad h1; omega⟩
    obtain ⟨i, rfl⟩ : ∃ i : Nat, a = i := ⟨a.toNat, by omega⟩
    have hx : l[i]? = some l[i] := List.getElem?_eq_getElem (by omega)
    generalize l[i] = nd at hx
    cases m with
    | zero => 
      refine ⟨none, .out i 0 h1 (by omega), fun t y h => (by cases h), fun _ t ht => ?_⟩
      obtain ⟨nd', L, R, _, rfl, _⟩ := ht.node_at
      simp [T.size]
    | succ m =>
      obtain ⟨o1, k1, s1, f1⟩ := ih m (by omega) nd.left
      cases o1 with
      | none =>
        refine ⟨none, .left i nd m hx k1, fun t y h => (by cases h), fun _ t ht => ?_⟩
        obtain ⟨nd', L, R, e, rfl, hl, hr⟩ := ht.node_at
        rw [hx] at e; cases e
        have := f1 rfl L hl
        simp [T.size]; omega
      | some o =>
        obtain ⟨L, x⟩ := o
        obtain ⟨hL, hs⟩ := s1 L x rfl
        obtain ⟨o2, k2, s2, f2⟩ := ih x (by omega) nd.right
        cases o2 with
        | none =>
          refine ⟨none, .right i nd m L x hx (by omega) (by omega) k1 k2, fun t y h => (by cases h), fun _ t ht => ?_⟩
          obtain ⟨nd', L', R, e, rfl, hl, hr⟩ := ht.node_at
          rw [hx] at e; cases e
          have := f2 rfl R hr
          rw [hl.det hL]
          simp [T.size]; omega
        | some o =>
          obtain ⟨R, y⟩ := o
          obtain ⟨hR, hs2⟩ := s2 R y rfl
          refine ⟨_, .both i nd m L x R y hx (by omega) (by omega) (by omega) k1 k2, fun t z h => ?_, fun h => (by cases h)⟩
          cases h
          exact ⟨⟨rfl, nd, hx, rfl, hL, hR⟩, by simp [T.size]; omega⟩

/-- The node at a place is lighter than a key, or there is none. -/
def LtI (l : List Nd) (a k : Int) : Prop := a < 0 ∨ ∃ (j : Nat) (nd : Nd), a = (j : Int) ∧ l[j]? = some nd ∧ pri nd.key < pri k
section
variable {l : List Nd}
theorem Lay.kids : ∀ {t : T} {a : Int}, Lay l t a → ∀ i ∈ t.ids, ∃ nd L R, l[i]? = some nd ∧ Lay l L nd.left ∧ Lay l R nd.right
  | .nil, _, _, i, h => by simp [T.ids] at h
  | .node j k L R, a, h, i, hi => by
    obtain ⟨h1, nd, h2, h3, h4, h5⟩ := h
    simp only [T.ids, List.mem_append, List.mem_cons] at hi
    rcases hi with hi | rfl | hi
    · exact Lay.kids h4 i hi
    · exact ⟨nd, L, R, h2, h4, h5⟩
    · exact Lay.kids h5 i hi
theorem lt_of {t : T} {a k : Int} (h : Lay l t a) (hp : Hp t (pri k)) : LtI l a k := by
  cases t with
  | nil => exact .inl (by have : a = -1 := h; omega)
  | node j k' L R =>
    obtain ⟨h1, nd, h2, rfl, _⟩ := h
    exact .inr ⟨j, nd, h1, h2, hp.1⟩
theorem Lay.light : ∀ {t : T} {a w : Int}, Lay l t a → Hp t w → ∀ i ∈ t.ids, ∀ nd, l[i]? = some nd → LtI l nd.left nd.key ∧ LtI l nd.right nd.key
  | .nil, _, _, _, _, i, h => by simp [T.ids] at h
  | .node j k L R, a, w, h, hp, i, hi => by
    obtain ⟨h1, nd, h2, h3, h4, h5⟩ := h
    obtain ⟨p1, p2, p3⟩ := hp
    simp only [T.ids, List.mem_append, List.mem_cons] at hi
    rcases hi with hi | rfl | hi
    · exact Lay.light h4 p2 i hi
    · intro m hm
      rw [h2] at hm
      cases hm
      subst h3
      exact ⟨lt_of h4 p2, lt_of h5 p3⟩
    · exact Lay.light h5 p3 i hi
theorem hp_of : ∀ {t : T} {a w : Int}, Lay l t a → (∀ nd ∈ l, LtI l nd.left nd.key ∧ LtI l nd.right nd.key) → (∀ j nd, a = ((j : Nat) : Int) → l[j]? = some nd → pri nd.key < w) → Hp t w
  | .nil, _, _, _, _, _ => trivial
  | .node j k L R, a, w, h, hl, hw => by
    obtain ⟨h1, nd, h2, rfl, h4, h5⟩ := h
    obtain ⟨q1, q2⟩ := hl nd (List.mem_of_getElem? h2)
    have side : ∀ {b : Int}, LtI l b nd.key → ∀ j' nd', b = ((j' : Nat) : Int) → l[j']? = some nd' → pri nd'.key < pri nd.key := fun {b} hb j' nd' e1 e2 => by
      rcases hb with hb | ⟨j'', nd'', e3, e4, e5⟩
      · omega
      · obtain rfl : j' = j'' := by omega
        rw [e2] at e4; cases e4; exact e5
    exact ⟨hw j nd h1 h2, hp_of h4 hl (side q1), hp_of h5 hl (side q2)⟩
/-- All that the reference asks of a tree. -/
theorem good_iff {r : Int} {t : T} (hk : ∀ nd ∈ l, IsKey nd.key) (ht : Lay l t r) (hs : t.size = l.length) (h64 : l.length ≤ 64) (hr : Rising t.inord) :
    (∀ i, i < l.length → i ∈ t.ids) ∧ ((∀ nd ∈ l, LtI l nd.left nd.key ∧ LtI l nd.right nd.key) ↔ ∃ u, Good l r u) := by
  have hb : Bst t (-1) 4294967296 := bst_of hr fun x hx => by
    obtain ⟨nd, h1, rfl⟩ := List.mem_map.1 (ht.key_in x hx)
    have := hk nd h1
    unfold IsKey at this; omega
  have hall : ∀ i, i < l.length → i ∈ t.ids := fun i hi => nodup_all (ht.nodup hb) (fun x hx => by
    obtain ⟨nd, e, _⟩ := ht.key_of x hx
    exact (List.getElem?_eq_some_iff.1 e).1) (by rw [T.ids_len]; exact hs) hi
  refine ⟨hall, fun h => ⟨t, ht, hs, h64, hb, hp_of ht h fun j nd _ _ => (pri_range _).2⟩, fun ⟨u, hu⟩ nd hnd => ?_⟩
  obtain ⟨i, hi, e⟩ := List.mem_iff_getElem.1 hnd
  exact hu.1.light hu.2.2.2.2 i (hu.all hi) nd (by rw [List.getElem?_eq_getElem hi, e])
end
end Go.Proofs.Ytpblonfcdnephaa
