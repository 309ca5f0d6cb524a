/-
  Sorting in place, as lists: exchanges, insertion, rotation, merging by rotation; no program is named.
-/
import Derived.Test.YthldaebinchpdaaOrder
namespace Go.Proofs.Ythldaebinchpdaa
set_option linter.unusedVariables false

/-- The float at i. -/
def G (l : List Nat) (i : Nat) : Nat := l.getD i 0
/-- Its place in the order. -/
def K (l : List Nat) (i : Nat) : Int := key (G l i)
/-- Two exchanged. -/
def swp (l : List Nat) (i j : Nat) : List Nat := (l.set i (G l j)).set j (G l i)
theorem swp_len (l : List Nat) (i j : Nat) : (swp l i j).length = l.length := by unfold swp; rw [List.length_set, List.length_set]
theorem G_lt {l : List Nat} {i : Nat} (h : i < l.length) : G l i = l[i] := by unfold G; rw [List.getD_eq_getElem?_getD, List.getElem?_eq_getElem h]; rfl
theorem swp_perm {l : List Nat} {i j : Nat} (hi : i < l.length) (hj : j < l.length) : (swp l i j).Perm l := by
  unfold swp
  rw [G_lt hi, G_lt hj]
  exact List.set_set_perm hi hj
theorem G_swp {l : List Nat} {i j : Nat} (hi : i < l.length) (hj : j < l.length) (k : Nat) : G (swp l i j) k = if k = j then G l i else if k = i then G l j else G l k := by
  show (swp l i j).getD k 0 = _
  unfold swp
  rw [List.getD_eq_getElem?_getD, List.getElem?_set, List.length_set, List.getElem?_set]
  by_cases h1 : k = j
  · rw [if_pos h1.symm, if_pos h1, if_pos hj]; rfl
  · rw [if_neg (fun h => h1 h.symm), if_neg h1]
    by_cases h2 : k = i
    · rw [if_pos h2.symm, if_pos h2, if_pos hi]; rfl
    · rw [if_neg (fun h => h2 h.symm), if_neg h2, ← List.getD_eq_getElem?_getD]; rfl
theorem G_swp1 {l : List Nat} {i j : Nat} (hi : i < l.length) (hj : j < l.length) : G (swp l i j) j = G l i := by rw [G_swp hi hj, if_pos rfl]
theorem G_swp2 {l : List Nat} {i j : Nat} (hi : i < l.length) (hj : j < l.length) : G (swp l i j) i = G l j := by
  rw [G_swp hi hj]
  by_cases h : i = j
  · rw [if_pos h, h]
  · rw [if_neg h, if_pos rfl]
theorem G_swp3 {l : List Nat} {i j k : Nat} (hi : i < l.length) (hj : j < l.length) (h1 : k ≠ i) (h2 : k ≠ j) : G (swp l i j) k = G l k := by rw [G_swp hi hj, if_neg h2, if_neg h1]

/-- l' is l, what lies from a to b moved about. -/
structure Upd (a b : Nat) (l l' : List Nat) : Prop where
  len : l'.length = l.length
  perm : l'.Perm l
  out : ∀ i, i < a ∨ b ≤ i → G l' i = G l i
  seg : ∀ i, a ≤ i → i < b → ∃ j, a ≤ j ∧ j < b ∧ G l' i = G l j
theorem Upd.refl (a b : Nat) (l : List Nat) : Upd a b l l := ⟨rfl, List.Perm.refl _, fun _ _ => rfl, fun i h1 h2 => ⟨i, h1, h2, rfl⟩⟩
theorem Upd.trans {a b : Nat} {l m n : List Nat} (h : Upd a b l m) (k : Upd a b m n) : Upd a b l n :=
  ⟨k.len.trans h.len, k.perm.trans h.perm, fun i hi => (k.out i hi).trans (h.out i hi), fun i h1 h2 => by
    obtain ⟨j, j1, j2, e⟩ := k.seg i h1 h2
    obtain ⟨q, q1, q2, e'⟩ := h.seg j j1 j2
    exact ⟨q, q1, q2, e.trans e'⟩⟩
theorem Upd.wide {a b c d : Nat} {l m : List Nat} (h : Upd a b l m) (h1 : c ≤ a) (h2 : b ≤ d) : Upd c d l m :=
  ⟨h.len, h.perm, fun i hi => h.out i (by omega), fun i i1 i2 => by
    by_cases hi : a ≤ i ∧ i < b
    · obtain ⟨j, j1, j2, e⟩ := h.seg i hi.1 hi.2
      exact ⟨j, by omega, by omega, e⟩
    · exact ⟨i, i1, i2, h.out i (by omega)⟩⟩
theorem Upd.swap {a b : Nat} {l : List Nat} {i j : Nat} (hi : a ≤ i ∧ i < b) (hj : a ≤ j ∧ j < b) (hb : b ≤ l.length) : Upd a b l (swp l i j) :=
  ⟨swp_len _ _ _, swp_perm (by omega) (by omega), fun k hk => G_swp3 (by omega) (by omega) (by omega) (by omega), fun k h1 h2 => by
    by_cases e1 : k = j
    · subst e1; exact ⟨i, hi.1, hi.2, G_swp1 (by omega) (by omega)⟩
    · by_cases e2 : k = i
      · subst e2; exact ⟨j, hj.1, hj.2, G_swp2 (by omega) (by omega)⟩
      · exact ⟨k, h1, h2, G_swp3 (by omega) (by omega) e2 e1⟩⟩

/-- What lies from a to b is in order. -/
def Sd (l : List Nat) (a b : Nat) : Prop := ∀ i j, a ≤ i → i ≤ j → j < b → K l i ≤ K l j
theorem Sd.sub {l : List Nat} {a b c d : Nat} (h : Sd l a b) (h1 : a ≤ c) (h2 : d ≤ b) : Sd l c d := fun i j hi hij hj => h i j (by omega) hij (by omega)
theorem Sd.small {l : List Nat} {a b : Nat} (h : b ≤ a + 1) : Sd l a b := fun i j hi hij hj => by
  obtain rfl : i = j := by omega
  exact Int.le_refl _
theorem Sd.out {a b c d : Nat} {l m : List Nat} (h : Sd l c d) (u : Upd a b l m) (ho : d ≤ a ∨ b ≤ c) : Sd m c d := fun i j hi hij hj => by
  have := h i j hi hij hj
  unfold K at *
  rw [u.out i (by omega), u.out j (by omega)]
  exact this

/-! ### Insertion -/
def InsI (l : List Nat) (a j i : Nat) : Prop :=
  a ≤ j ∧ j ≤ i ∧ (∀ p q, a ≤ p → p ≤ q → q ≤ i → p ≠ j → q ≠ j → K l p ≤ K l q) ∧ ∀ q, j < q → q ≤ i → K l j < K l q
theorem InsI.start {l : List Nat} {a i : Nat} (h : Sd l a i) (ha : a ≤ i) : InsI l a i i :=
  ⟨ha, Nat.le_refl _, fun p q h1 h2 h3 h4 h5 => h p q h1 h2 (by omega), fun q h1 h2 => by omega⟩
theorem InsI.step {l : List Nat} {a j i : Nat} (h : InsI l a j i) (hj : a < j) (hi : i < l.length) (hk : K l j < K l (j - 1)) : InsI (swp l j (j - 1)) a (j - 1) i := by
  obtain ⟨h1, h2, h3, h4⟩ := h
  have hj1 : j < l.length := by omega
  have hj2 : j - 1 < l.length := by omega
  have e1 : K (swp l j (j - 1)) (j - 1) = K l j := by unfold K; rw [G_swp1 hj1 hj2]
  have e2 : K (swp l j (j - 1)) j = K l (j - 1) := by unfold K; rw [G_swp2 hj1 hj2]
  have e3 : ∀ k, k ≠ j → k ≠ j - 1 → K (swp l j (j - 1)) k = K l k := fun k a b => by unfold K; rw [G_swp3 hj1 hj2 a b]
  refine ⟨by omega, by omega, fun p q p1 p2 p3 p4 p5 => ?_, fun q q1 q2 => ?_⟩
  · by_cases ep : p = j
    · subst ep
      by_cases eq : q = p
      · subst eq; exact Int.le_refl _
      · rw [e2, e3 q eq p5]; exact h3 _ _ (by omega) (by omega) p3 (by omega) eq
    · rw [e3 p ep p4]
      by_cases eq : q = j
      · subst eq; rw [e2]; exact h3 _ _ p1 (by omega) (by omega) ep (by omega)
      · rw [e3 q eq p5]; exact h3 _ _ p1 p2 p3 ep eq
  · rw [e1]
    by_cases eq : q = j
    · subst eq; rw [e2]; exact hk
    · rw [e3 q eq (by omega)]; exact h4 q (by omega) q2
theorem InsI.stop {l : List Nat} {a j i : Nat} (h : InsI l a j i) (hs : j = a ∨ K l (j - 1) ≤ K l j) : Sd l a (i + 1) := by
  obtain ⟨h1, h2, h3, h4⟩ := h
  intro p q p1 p2 p3
  by_cases e : p = q
  · subst e; exact Int.le_refl _
  · by_cases eq : q = j
    · subst eq
      rcases hs with hs | hs
      · omega
      · have := h3 p (q - 1) p1 (by omega) (by omega) (by omega) (by omega)
        omega
    · by_cases ep : p = j
      · subst ep; have := h4 q (by omega) (by omega); omega
      · exact h3 p q p1 p2 (by omega) ep eq

/-! ### Two ranges exchanged; rotation -/
def swr (l : List Nat) (a b : Nat) : Nat → List Nat
  | 0 => l
  | i + 1 => swp (swr l a b i) (a + i) (b + i)
theorem swr_len (l : List Nat) (a b : Nat) : ∀ i, (swr l a b i).length = l.length
  | 0 => rfl
  | i + 1 => by show (swp _ _ _).length = _; rw [swp_len, swr_len l a b i]
theorem swr_upd {l : List Nat} {a b : Nat} : ∀ {i : Nat}, a ≤ b → b + i ≤ l.length → Upd a (b + i) l (swr l a b i)
  | 0, _, _ => Upd.refl _ _ _
  | i + 1, h, hl => ((swr_upd (i := i) h (by omega)).wide (Nat.le_refl _) (by omega)).trans (Upd.swap (by omega) (by omega) (by rw [swr_len]; omega))
theorem swr_G {l : List Nat} {a b : Nat} : ∀ {i : Nat}, a + i ≤ b → b + i ≤ l.length → ∀ k, G (swr l a b i) k = if a ≤ k ∧ k < a + i then G l (k + (b - a)) else if b ≤ k ∧ k < b + i then G l (k - (b - a)) else G l k
  | 0, h, hl, k => by rw [if_neg (by omega), if_neg (by omega)]; rfl
  | i + 1, h, hl, k => by
    have ih := swr_G (l := l) (a := a) (b := b) (i := i) (by omega) (by omega)
    have hlen := swr_len l a b i
    show G (swp (swr l a b i) (a + i) (b + i)) k = _
    by_cases e1 : k = b + i
    · subst e1
      rw [G_swp1 (by omega) (by omega), ih, if_neg (by omega), if_neg (by omega), if_neg (by omega), if_pos (by omega)]
      congr 1; omega
    · by_cases e2 : k = a + i
      · subst e2
        rw [G_swp2 (by omega) (by omega), ih, if_neg (by omega), if_neg (by omega), if_pos (by omega)]
        congr 1; omega
      · rw [G_swp3 (by omega) (by omega) e2 e1, ih]
        by_cases c1 : a ≤ k ∧ k < a + i
        · rw [if_pos c1, if_pos (by omega)]
        · by_cases c2 : b ≤ k ∧ k < b + i
          · rw [if_neg c1, if_pos c2, if_neg (show ¬ (a ≤ k ∧ k < a + (i + 1)) by omega), if_pos (show b ≤ k ∧ k < b + (i + 1) by omega)]
          · rw [if_neg c1, if_neg c2, if_neg (show ¬ (a ≤ k ∧ k < a + (i + 1)) by omega), if_neg (show ¬ (b ≤ k ∧ k < b + (i + 1)) by omega)]
/-- What is at k when the ranges from a to m and from m to b have changed places. -/
def rotT (l : List Nat) (a m b k : Nat) : Nat := if k < a + (b - m) then G l (k + (m - a)) else G l (k - (b - m))
/-- Part of it is done: i and j are left, on both sides of m. -/
structure RotI (l0 l : List Nat) (a m b i j : Nat) : Prop where
  bi : 0 < i ∧ i ≤ m - a
  bj : 0 < j ∧ j ≤ b - m
  upd : Upd a b l0 l
  lo : ∀ k, a ≤ k → k < m - i → G l k = rotT l0 a m b k
  hi : ∀ k, m + j ≤ k → k < b → G l k = rotT l0 a m b k
  in1 : ∀ k, m - i ≤ k → k < m - i + j → rotT l0 a m b k = G l (k + i)
  in2 : ∀ k, m - i + j ≤ k → k < m + j → rotT l0 a m b k = G l (k - j)
theorem RotI.start {l : List Nat} {a m b : Nat} (h1 : a < m) (h2 : m < b) : RotI l l a m b (m - a) (b - m) :=
  ⟨by omega, by omega, Upd.refl _ _ _, fun k k1 k2 => by omega, fun k k1 k2 => by omega,
    fun k k1 k2 => by unfold rotT; rw [if_pos (by omega)], fun k k1 k2 => by unfold rotT; rw [if_neg (by omega)]⟩
theorem RotI.left {l0 l : List Nat} {a m b i j : Nat} (h : RotI l0 l a m b i j) (hij : j < i) (ha : a < m) (hb : m < b) (hl : b ≤ l0.length) : RotI l0 (swr l (m - i) m j) a m b (i - j) j := by
  have b1 := h.bi
  have b2 := h.bj
  have hlen := h.upd.len
  have g := swr_G (l := l) (a := m - i) (b := m) (i := j) (by omega) (by omega)
  refine ⟨by omega, by omega, h.upd.trans ((swr_upd (by omega) (by omega)).wide (by omega) (by omega)), fun k k1 k2 => ?_, fun k k1 k2 => ?_, fun k k1 k2 => ?_, fun k k1 k2 => ?_⟩
  · rw [g]
    by_cases c : m - i ≤ k ∧ k < m - i + j
    · rw [if_pos c, h.in1 k c.1 c.2]; congr 1; omega
    · rw [if_neg c, if_neg (by omega), h.lo k k1 (by omega)]
  · rw [g, if_neg (by omega), if_neg (by omega), h.hi k k1 k2]
  · rw [g, if_neg (by omega), if_pos (by omega), h.in2 k (by omega) (by omega)]; congr 1; omega
  · rw [g, if_neg (by omega), if_neg (by omega), h.in2 k (by omega) (by omega)]
theorem RotI.right {l0 l : List Nat} {a m b i j : Nat} (h : RotI l0 l a m b i j) (hij : i < j) (ha : a < m) (hb : m < b) (hl : b ≤ l0.length) : RotI l0 (swr l (m - i) (m + j - i) i) a m b i (j - i) := by
  have b1 := h.bi
  have b2 := h.bj
  have hlen := h.upd.len
  have g := swr_G (l := l) (a := m - i) (b := m + j - i) (i := i) (by omega) (by omega)
  refine ⟨by omega, by omega, h.upd.trans ((swr_upd (by omega) (by omega)).wide (by omega) (by omega)), fun k k1 k2 => ?_, fun k k1 k2 => ?_, fun k k1 k2 => ?_, fun k k1 k2 => ?_⟩
  · rw [g, if_neg (by omega), if_neg (by omega), h.lo k k1 (by omega)]
  · rw [g, if_neg (by omega)]
    by_cases c : m + j - i ≤ k ∧ k < m + j - i + i
    · rw [if_pos c, h.in2 k (by omega) (by omega)]; congr 1; omega
    · rw [if_neg c, h.hi k (by omega) k2]
  · rw [g, if_neg (by omega), if_neg (by omega), h.in1 k (by omega) (by omega)]
  · rw [g, if_pos (by omega), h.in1 k (by omega) (by omega)]; congr 1; omega
theorem RotI.stop {l0 l : List Nat} {a m b i : Nat} (h : RotI l0 l a m b i i) (ha : a < m) (hb : m < b) (hl : b ≤ l0.length) :
    Upd a b l0 (swr l (m - i) m i) ∧ ∀ k, a ≤ k → k < b → G (swr l (m - i) m i) k = rotT l0 a m b k := by
  have b1 := h.bi
  have b2 := h.bj
  have hlen := h.upd.len
  have g := swr_G (l := l) (a := m - i) (b := m) (i := i) (by omega) (by omega)
  refine ⟨h.upd.trans ((swr_upd (by omega) (by omega)).wide (by omega) (by omega)), fun k k1 k2 => ?_⟩
  rw [g]
  by_cases c : m - i ≤ k ∧ k < m - i + i
  · rw [if_pos c, h.in1 k (by omega) (by omega)]; congr 1; omega
  · rw [if_neg c]
    by_cases d : m ≤ k ∧ k < m + i
    · rw [if_pos d, h.in2 k (by omega) (by omega)]; congr 1; omega
    · rw [if_neg d]
      by_cases e : k < m
      · exact h.lo k k1 (by omega)
      · exact h.hi k (by omega) k2

/-! ### Merging -/
/-- One that lies ahead of a row is moved into it: from a to i - 1. -/
def shl (l : List Nat) (a : Nat) : Nat → List Nat
  | 0 => l
  | k + 1 => swp (shl l a k) (a + k) (a + k + 1)
theorem shl_len (l : List Nat) (a : Nat) : ∀ k, (shl l a k).length = l.length
  | 0 => rfl
  | k + 1 => by show (swp _ _ _).length = _; rw [swp_len, shl_len l a k]
theorem shl_upd {l : List Nat} {a : Nat} : ∀ {k : Nat}, a + k < l.length → Upd a (a + k + 1) l (shl l a k)
  | 0, _ => Upd.refl _ _ _
  | k + 1, h => ((shl_upd (k := k) (by omega)).wide (Nat.le_refl _) (by omega)).trans (Upd.swap (by omega) (by omega) (by rw [shl_len]; omega))
theorem shl_G {l : List Nat} {a : Nat} : ∀ {k : Nat}, a + k < l.length → ∀ p, G (shl l a k) p = if a ≤ p ∧ p < a + k then G l (p + 1) else if p = a + k then G l a else G l p
  | 0, h, p => by
    by_cases e : p = a + 0
    · rw [if_neg (by omega), if_pos e, e]; rfl
    · rw [if_neg (by omega), if_neg e]; rfl
  | k + 1, h, p => by
    have ih := shl_G (l := l) (a := a) (k := k) (by omega)
    have hlen := shl_len l a k
    show G (swp (shl l a k) (a + k) (a + k + 1)) p = _
    by_cases e1 : p = a + k + 1
    · subst e1
      rw [G_swp1 (by omega) (by omega), ih, if_neg (by omega), if_pos rfl, if_neg (by omega), if_pos (by omega)]
    · by_cases e2 : p = a + k
      · subst e2
        rw [G_swp2 (by omega) (by omega), ih, if_neg (by omega), if_neg (by omega), if_pos (by omega)]
      · rw [G_swp3 (by omega) (by omega) e2 e1, ih]
        by_cases c1 : a ≤ p ∧ p < a + k
        · rw [if_pos c1, if_pos (show a ≤ p ∧ p < a + (k + 1) by omega)]
        · rw [if_neg c1, if_neg e2, if_neg (show ¬ (a ≤ p ∧ p < a + (k + 1)) by omega), if_neg (show ¬ p = a + (k + 1) by omega)]
theorem shl_sd {l : List Nat} {a b i : Nat} (hb : b ≤ l.length) (hs : Sd l (a + 1) b) (hi : a + 1 ≤ i ∧ i ≤ b) (h1 : i = a + 1 ∨ K l (i - 1) < K l a) (h2 : i = b ∨ K l a ≤ K l i) : Sd (shl l a (i - 1 - a)) a b := by
  have g := shl_G (l := l) (a := a) (k := i - 1 - a) (by omega)
  have e : ∀ p, a ≤ p → p < b → (p < i - 1 ∧ K (shl l a (i - 1 - a)) p = K l (p + 1)) ∨ (p = i - 1 ∧ K (shl l a (i - 1 - a)) p = K l a) ∨ (i ≤ p ∧ K (shl l a (i - 1 - a)) p = K l p) := fun p p1 p2 => by
    unfold K
    rw [g]
    by_cases c1 : p < i - 1
    · rw [if_pos (by omega)]; exact .inl ⟨c1, rfl⟩
    · rw [if_neg (by omega)]
      by_cases c2 : p = i - 1
      · rw [if_pos (by omega)]; exact .inr (.inl ⟨c2, rfl⟩)
      · rw [if_neg (by omega)]; exact .inr (.inr ⟨by omega, rfl⟩)
  intro p q p1 p2 p3
  rcases e p p1 (by omega) with ⟨x1, x2⟩ | ⟨x1, x2⟩ | ⟨x1, x2⟩ <;> rcases e q (by omega) p3 with ⟨y1, y2⟩ | ⟨y1, y2⟩ | ⟨y1, y2⟩
  · rw [x2, y2]; exact hs _ _ (by omega) (by omega) (by omega)
  · rw [x2, y2]
    have := hs (p + 1) (i - 1) (by omega) (by omega) (by omega)
    omega
  · rw [x2, y2]; exact hs _ _ (by omega) (by omega) (by omega)
  · omega
  · rw [x2, y2]; exact Int.le_refl _
  · rw [x2, y2]
    have := hs i q (by omega) (by omega) (by omega)
    omega
  · omega
  · omega
  · rw [x2, y2]; exact hs _ _ (by omega) (by omega) (by omega)
/-- One that lies behind a row is moved into it: from m down to i. -/
def shr (l : List Nat) (m : Nat) : Nat → List Nat
  | 0 => l
  | k + 1 => swp (shr l m k) (m - k) (m - k - 1)
theorem shr_len (l : List Nat) (m : Nat) : ∀ k, (shr l m k).length = l.length
  | 0 => rfl
  | k + 1 => by show (swp _ _ _).length = _; rw [swp_len, shr_len l m k]
theorem shr_upd {l : List Nat} {m : Nat} : ∀ {k : Nat}, k ≤ m → m < l.length → Upd (m - k) (m + 1) l (shr l m k)
  | 0, _, _ => Upd.refl _ _ _
  | k + 1, h, hl => ((shr_upd (k := k) (by omega) hl).wide (by omega) (Nat.le_refl _)).trans (Upd.swap (by omega) (by omega) (by rw [shr_len]; omega))
theorem shr_G {l : List Nat} {m : Nat} : ∀ {k : Nat}, k ≤ m → m < l.length → ∀ p, G (shr l m k) p = if m - k < p ∧ p ≤ m then G l (p - 1) else if p = m - k then G l m else G l p
  | 0, h, hl, p => by
    by_cases e : p = m - 0
    · rw [if_neg (by omega), if_pos e, e]; rfl
    · rw [if_neg (by omega), if_neg e]; rfl
  | k + 1, h, hl, p => by
    have ih := shr_G (l := l) (m := m) (k := k) (by omega) hl
    have hlen := shr_len l m k
    show G (swp (shr l m k) (m - k) (m - k - 1)) p = _
    by_cases e1 : p = m - k - 1
    · subst e1
      rw [G_swp1 (by omega) (by omega), ih, if_neg (by omega), if_pos rfl, if_neg (by omega), if_pos (by omega)]
    · by_cases e2 : p = m - k
      · subst e2
        rw [G_swp2 (by omega) (by omega), ih, if_neg (by omega), if_neg (by omega), if_pos (by omega)]
      · rw [G_swp3 (by omega) (by omega) e2 e1, ih]
        by_cases c1 : m - k < p ∧ p ≤ m
        · rw [if_pos c1, if_pos (show m - (k + 1) < p ∧ p ≤ m by omega)]
        · rw [if_neg c1, if_neg e2, if_neg (show ¬ (m - (k + 1) < p ∧ p ≤ m) by omega), if_neg (show ¬ p = m - (k + 1) by omega)]
theorem shr_sd {l : List Nat} {a m i : Nat} (hb : m < l.length) (hs : Sd l a m) (hi : a ≤ i ∧ i ≤ m) (h1 : i = a ∨ K l (i - 1) ≤ K l m) (h2 : i = m ∨ K l m < K l i) : Sd (shr l m (m - i)) a (m + 1) := by
  have g := shr_G (l := l) (m := m) (k := m - i) (by omega) hb
  have e : ∀ p, a ≤ p → p < m + 1 → (p < i ∧ K (shr l m (m - i)) p = K l p) ∨ (p = i ∧ K (shr l m (m - i)) p = K l m) ∨ (i < p ∧ K (shr l m (m - i)) p = K l (p - 1)) := fun p p1 p2 => by
    unfold K
    rw [g]
    by_cases c1 : i < p
    · rw [if_pos (by omega)]; exact .inr (.inr ⟨c1, rfl⟩)
    · rw [if_neg (by omega)]
      by_cases c2 : p = i
      · rw [if_pos (by omega)]; exact .inr (.inl ⟨c2, rfl⟩)
      · rw [if_neg (by omega)]; exact .inl ⟨by omega, rfl⟩
  intro p q p1 p2 p3
  rcases e p p1 (by omega) with ⟨x1, x2⟩ | ⟨x1, x2⟩ | ⟨x1, x2⟩ <;> rcases e q (by omega) p3 with ⟨y1, y2⟩ | ⟨y1, y2⟩ | ⟨y1, y2⟩
  · rw [x2, y2]; exact hs _ _ p1 p2 (by omega)
  · rw [x2, y2]
    have := hs p (i - 1) p1 (by omega) (by omega)
    omega
  · rw [x2, y2]; exact hs _ _ (by omega) (by omega) (by omega)
  · omega
  · rw [x2, y2]; exact Int.le_refl _
  · rw [x2, y2]
    have := hs i (q - 1) (by omega) (by omega) (by omega)
    omega
  · omega
  · omega
  · rw [x2, y2]; exact hs _ _ (by omega) (by omega) (by omega)
/-- Two rows, of which the first one's last part and the other one's first part have changed places: all ahead of mid is at most all behind it. -/
structure MrgI (l l1 : List Nat) (a m b s mid : Nat) : Prop where
  s1 : Sd l1 a s
  s2 : Sd l1 s mid
  s3 : Sd l1 mid (mid + m - s)
  s4 : Sd l1 (mid + m - s) b
  le : ∀ i j, a ≤ i → i < mid → mid ≤ j → j < b → K l1 i ≤ K l1 j
theorem MrgI.mk' {l l1 : List Nat} {a m b s mid : Nat} (h1 : Sd l a m) (h2 : Sd l m b) (hs : a ≤ s ∧ s ≤ m) (he : m ≤ mid + m - s ∧ mid + m - s ≤ b) (hsm : s ≤ mid)
    (e1 : s = a ∨ mid + m - s = b ∨ K l (s - 1) ≤ K l (mid + m - s)) (e2 : s = m ∨ mid = s ∨ K l (mid + m - s - 1) < K l s)
    (u : ∀ k, k < s ∨ mid + m - s ≤ k → G l1 k = G l k) (r : ∀ k, s ≤ k → k < mid + m - s → G l1 k = rotT l s m (mid + m - s) k) : MrgI l l1 a m b s mid := by
  have g1 : ∀ k, k < s → K l1 k = K l k := fun k hk => by unfold K; rw [u k (by omega)]
  have g4 : ∀ k, mid + m - s ≤ k → K l1 k = K l k := fun k hk => by unfold K; rw [u k (by omega)]
  have g2 : ∀ k, s ≤ k → k < mid → K l1 k = K l (k + (m - s)) := fun k k1 k2 => by
    unfold K; rw [r k k1 (by omega)]; unfold rotT; rw [if_pos (by omega)]
  have g3 : ∀ k, mid ≤ k → k < mid + m - s → K l1 k = K l (k - (mid - s)) := fun k k1 k2 => by
    unfold K; rw [r k (by omega) k2]; unfold rotT; rw [if_neg (by omega)]; congr 2; omega
  refine ⟨fun i j i1 i2 i3 => ?_, fun i j i1 i2 i3 => ?_, fun i j i1 i2 i3 => ?_, fun i j i1 i2 i3 => ?_, fun i j i1 i2 i3 i4 => ?_⟩
  · rw [g1 i (by omega), g1 j (by omega)]; exact h1 i j i1 i2 (by omega)
  · rw [g2 i i1 (by omega), g2 j (by omega) i3]; exact h2 _ _ (by omega) (by omega) (by omega)
  · rw [g3 i i1 (by omega), g3 j (by omega) i3]; exact h1 _ _ (by omega) (by omega) (by omega)
  · rw [g4 i i1, g4 j (by omega)]; exact h2 _ _ (by omega) (by omega) (by omega)
  · by_cases c1 : i < s
    · rw [g1 i c1]
      by_cases c2 : j < mid + m - s
      · rw [g3 j i3 c2]; exact h1 _ _ i1 (by omega) (by omega)
      · rw [g4 j (by omega)]
        have x1 := h1 i (s - 1) i1 (by omega) (by omega)
        have x2 := h2 (mid + m - s) j (by omega) (by omega) i4
        omega
    · rw [g2 i (by omega) i2]
      by_cases c2 : j < mid + m - s
      · rw [g3 j i3 c2]
        have x1 := h2 (i + (m - s)) (mid + m - s - 1) (by omega) (by omega) (by omega)
        have x2 := h1 s (j - (mid - s)) (by omega) (by omega) (by omega)
        omega
      · rw [g4 j (by omega)]; exact h2 _ _ (by omega) (by omega) (by omega)
theorem MrgI.stop {l l1 l2 l3 : List Nat} {a m b s mid : Nat} (h : MrgI l l1 a m b s mid) (u2 : Upd a mid l1 l2) (s2 : Sd l2 a mid) (u3 : Upd mid b l2 l3) (s3 : Sd l3 mid b) : Sd l3 a b := by
  intro i j i1 i2 i3
  by_cases c1 : j < mid
  · have := s2 i j i1 i2 c1
    unfold K at *
    rw [u3.out i (by omega), u3.out j (by omega)]
    exact this
  · by_cases c2 : mid ≤ i
    · exact s3 i j c2 i2 i3
    · obtain ⟨p, p1, p2, ep⟩ := u2.seg i i1 (by omega)
      obtain ⟨q, q1, q2, eq⟩ := u3.seg j (by omega) i3
      have := h.le p q p1 p2 q1 q2
      unfold K at *
      rw [u3.out i (by omega), ep, eq, u2.out q (by omega)]
      exact this
end Go.Proofs.Ythldaebinchpdaa
