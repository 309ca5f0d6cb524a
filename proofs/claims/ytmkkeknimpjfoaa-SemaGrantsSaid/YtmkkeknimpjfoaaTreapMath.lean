/-
  Trees of keys: which may be, their shape, what is ahead of a key. Of no program.
-/
import Derived.Test.YtmkkeknimpjfoaaBase
namespace Go.Proofs.Ytmkkeknimpjfoaa
set_option linter.unusedVariables false

structure Nd where
  key : Int
  left : Int
  right : Int
instance : Inhabited Nd := ⟨⟨0, 0, 0⟩⟩

inductive T where
  | nil : T
  | node : Nat → Int → T → T → T

def pri (k : Int) : Int := k * 2654435761 % 4294967296
def IsKey (k : Int) : Prop := 0 ≤ k ∧ k ≤ 4294967295
theorem pri_back {a : Int} (ha : IsKey a) : pri a * 244002641 % 4294967296 = a := by
  unfold pri
  rw [Int.mul_emod, Int.emod_emod_of_dvd _ (Int.dvd_refl _), ← Int.mul_emod, Int.mul_assoc, Int.mul_emod, show ((2654435761 : Int) * 244002641) % 4294967296 = 1 from by decide, Int.mul_one, Int.emod_emod_of_dvd _ (Int.dvd_refl _)]
  unfold IsKey at ha
  exact Int.emod_eq_of_lt ha.1 (by omega)
theorem pri_inj {a b : Int} (ha : IsKey a) (hb : IsKey b) (h : pri a = pri b) : a = b := by
  rw [← pri_back ha, ← pri_back hb, h]
theorem pri_range (k : Int) : 0 ≤ pri k ∧ pri k < 4294967296 := by unfold pri; omega

def T.size : T → Nat
  | .nil => 0
  | .node _ _ L R => L.size + R.size + 1
def T.inord : T → List Int
  | .nil => []
  | .node _ k L R => L.inord ++ k :: R.inord
def T.ids : T → List Nat
  | .nil => []
  | .node i _ L R => L.ids ++ i :: R.ids
theorem T.inord_len : ∀ t : T, t.inord.length = t.size
  | .nil => rfl
  | .node _ _ L R => by simp [T.inord, T.size, T.inord_len L, T.inord_len R]; omega
theorem T.ids_len : ∀ t : T, t.ids.length = t.size
  | .nil => rfl
  | .node _ _ L R => by simp [T.ids, T.size, T.ids_len L, T.ids_len R]; omega

/-- The place a of l reads as a tree. -/
def Lay (l : List Nd) : T → Int → Prop
  | .nil, a => a = -1
  | .node i k L R, a => a = (i : Int) ∧ ∃ nd, l[i]? = some nd ∧ nd.key = k ∧ Lay l L nd.left ∧ Lay l R nd.right
def Bst : T → Int → Int → Prop
  | .nil, _, _ => True
  | .node _ k L R, lo, hi => lo < k ∧ k < hi ∧ Bst L lo k ∧ Bst R k hi
def Hp : T → Int → Prop
  | .nil, _ => True
  | .node _ k L R, w => pri k < w ∧ Hp L (pri k) ∧ Hp R (pri k)
def Good (l : List Nd) (r : Int) (t : T) : Prop := Lay l t r ∧ t.size = l.length ∧ l.length ≤ 64 ∧ Bst t (-1) 4294967296 ∧ Hp t 4294967296

theorem Lay.det {l : List Nd} : ∀ {t u : T} {a : Int}, Lay l t a → Lay l u a → t = u
  | .nil, .nil, _, _, _ => rfl
  | .nil, .node i k L R, a, h, g => by obtain ⟨h1, _⟩ := g; simp only [Lay] at h; omega
  | .node i k L R, .nil, a, h, g => by obtain ⟨h1, _⟩ := h; simp only [Lay] at g; omega
  | .node i k L R, .node j m L' R', a, h, g => by
    obtain ⟨h1, nd, h2, h3, h4, h5⟩ := h
    obtain ⟨g1, nd', g2, g3, g4, g5⟩ := g
    obtain rfl : i = j := by omega
    rw [h2] at g2
    cases g2
    rw [Lay.det h4 g4, Lay.det h5 g5, ← h3, ← g3]
theorem Lay.node_at {l : List Nd} {t : T} {i : Nat} (h : Lay l t i) : ∃ nd L R, l[i]? = some nd ∧ t = .node i nd.key L R ∧ Lay l L nd.left ∧ Lay l R nd.right := by
  cases t with
  | nil => simp only [Lay] at h; omega
  | node j k L R =>
    obtain ⟨h1, nd, h2, h3, h4, h5⟩ := h
    obtain rfl : i = j := by omega
    exact ⟨nd, L, R, h2, by rw [h3], h4, h5⟩
theorem Lay.nil_of {l : List Nd} {t : T} (h : Lay l t (-1)) : t = .nil := by
  cases t with
  | nil => rfl
  | node j k L R => obtain ⟨h1, _⟩ := h; omega
theorem Lay.bad {l : List Nd} {t : T} {a : Int} (h : Lay l t a) (h1 : a ≠ -1) : 0 ≤ a ∧ a < (l.length : Int) := by
  cases t with
  | nil => exact absurd h h1
  | node j k L R =>
    obtain ⟨rfl, nd, h2, _⟩ := h
    have := (List.getElem?_eq_some_iff.1 h2).1
    omega

/-- How many nodes have a key between. -/
def cnt (l : List Nd) (lo hi : Int) : Nat := l.countP fun nd => decide (lo < nd.key) && decide (nd.key < hi)
theorem cnt_split0 (lo k hi : Int) (h1 : lo < k) (h2 : k < hi) : ∀ l : List Nd, cnt l lo k + cnt l k hi + l.countP (fun nd => decide (nd.key = k)) ≤ cnt l lo hi
  | [] => by simp [cnt]
  | nd :: r => by
    have ih := cnt_split0 lo k hi h1 h2 r
    unfold cnt at *
    simp only [List.countP_cons, Bool.and_eq_true, decide_eq_true_eq]
    repeat' split
    all_goals omega
theorem cnt_split {l : List Nd} {i : Nat} {nd : Nd} {lo hi : Int} (h : l[i]? = some nd) (h1 : lo < nd.key) (h2 : nd.key < hi) : 1 + cnt l lo nd.key + cnt l nd.key hi ≤ cnt l lo hi := by
  have := cnt_split0 lo nd.key hi h1 h2 l
  have hp : 0 < l.countP (fun x => decide (x.key = nd.key)) := List.countP_pos_iff.2 ⟨nd, List.mem_of_getElem? h, by simp⟩
  omega
theorem cnt_le (l : List Nd) (lo hi : Int) : cnt l lo hi ≤ l.length := List.countP_le_length

/-- What package treap's walk of a tree answers: yes or no, and how many nodes it came to. -/
inductive Snd (l : List Nd) : Int → Int → Int → Int → Bool → Nat → Prop
  | nil (lo hi w : Int) : Snd l (-1) lo hi w true 0
  | out (a lo hi w : Int) : a ≠ -1 → (a < 0 ∨ (l.length : Int) ≤ a) → Snd l a lo hi w false 0
  | no (i : Nat) (nd : Nd) (lo hi w : Int) : l[i]? = some nd → (nd.key ≤ lo ∨ hi ≤ nd.key ∨ (lo < nd.key ∧ nd.key < hi ∧ w ≤ pri nd.key)) → Snd l i lo hi w false 0
  | left (i : Nat) (nd : Nd) (lo hi w : Int) (q : Nat) : l[i]? = some nd → lo < nd.key → nd.key < hi → pri nd.key < w → Snd l nd.left lo nd.key (pri nd.key) false q → Snd l i lo hi w false (q + 1)
  | both (i : Nat) (nd : Nd) (lo hi w : Int) (b : Bool) (q p : Nat) : l[i]? = some nd → lo < nd.key → nd.key < hi → pri nd.key < w → Snd l nd.left lo nd.key (pri nd.key) true q → Snd l nd.right nd.key hi (pri nd.key) b p → Snd l i lo hi w b (q + p + 1)

theorem snd_ex (l : List Nd) : ∀ (N : Nat) (a lo hi w : Int), w ≤ N → -1 ≤ lo → hi ≤ 4294967296 → ∃ b q, Snd l a lo hi w b q ∧ q ≤ cnt l lo hi ∧
    (b = true → ∃ t, Lay l t a ∧ Bst t lo hi ∧ Hp t w ∧ t.size = q) ∧ (b = false → ∀ t, Lay l t a → Bst t lo hi → Hp t w → False) := by
  intro N
  induction N with
  | zero =>
    intro a lo hi w hw hlo hhi
    by_cases h1 : a = -1
    · subst h1
      exact ⟨true, 0, .nil lo hi w, by omega, fun _ => ⟨.nil, rfl, trivial, trivial, rfl⟩, fun h => (by cases h)⟩
    by_cases h2 : a < 0 ∨ (l.length : Int) ≤ a
    · exact ⟨false, 0, .out a lo hi w h1 h2, by omega, fun h => (by cases h), fun _ t ht _ _ => by have := ht.bad h1; omega⟩
    obtain ⟨i, rfl⟩ : ∃ i : Nat, a = i := ⟨a.toNat, by omega⟩
    have hx : l[i]? = some l[i] := List.getElem?_eq_getElem (by omega)
    generalize l[i] = nd at hx
    have hp := pri_range nd.key
    refine ⟨false, 0, .no i nd lo hi w hx (by omega), by omega, fun h => (by cases h), fun _ t ht _ hh => ?_⟩
    obtain ⟨nd', L, R, e1, rfl, _⟩ := ht.node_at
    rw [hx] at e1; cases e1
    have := hh.1
    omega
  | succ N ih =>
    intro a lo hi w hw hlo hhi
    by_cases h1 : a = -1
    · subst h1
      exact ⟨true, 0, .nil lo hi w, by omega, fun _ => ⟨.nil, rfl, trivial, trivial, rfl⟩, fun h => (by cases h)⟩
    by_cases h2 : a < 0 ∨ (l.length : Int) ≤ a
    · exact ⟨false, 0, .out a lo hi w h1 h2, by omega, fun h => (by cases h), fun _ t ht _ _ => by have := ht.bad h1; omega⟩
    obtain ⟨i, rfl⟩ : ∃ i : Nat, a = i := ⟨a.toNat, by omega⟩
    have hx : l[i]? = some l[i] := List.getElem?_eq_getElem (by omega)
    generalize l[i] = nd at hx
    have hp := pri_range nd.key
    by_cases h3 : lo < nd.key ∧ nd.key < hi ∧ pri nd.key < w
    · obtain ⟨k1, k2, k3⟩ := h3
      obtain ⟨b1, q1, s1, c1, t1, f1⟩ := ih nd.left lo nd.key (pri nd.key) (by omega) hlo (by omega)
      have hc := cnt_split hx k1 k2
      cases b1 with
      | false =>
        refine ⟨false, q1 + 1, .left i nd lo hi w q1 hx k1 k2 k3 s1, by omega, fun h => (by cases h), fun _ t ht hb hh => ?_⟩
        obtain ⟨nd', L, R, e1, rfl, hl, hr⟩ := ht.node_at
        rw [hx] at e1; cases e1
        exact f1 rfl L hl hb.2.2.1 hh.2.1
      | true =>
        obtain ⟨b2, q2, s2, c2, t2, f2⟩ := ih nd.right nd.key hi (pri nd.key) (by omega) (by omega) hhi
        refine ⟨b2, q1 + q2 + 1, .both i nd lo hi w b2 q1 q2 hx k1 k2 k3 s1 s2, by omega, fun h => ?_, fun h t ht hb hh => ?_⟩
        · obtain ⟨L, l1, l2, l3, l4⟩ := t1 rfl
          obtain ⟨R, r1, r2, r3, r4⟩ := t2 h
          exact ⟨.node i nd.key L R, ⟨rfl, nd, hx, rfl, l1, r1⟩, ⟨k1, k2, l2, r2⟩, ⟨k3, l3, r3⟩, by simp [T.size]; omega⟩
        · obtain ⟨nd', L, R, e1, rfl, hl, hr⟩ := ht.node_at
          rw [hx] at e1; cases e1
          exact f2 h R hr hb.2.2.2 hh.2.2
    · refine ⟨false, 0, .no i nd lo hi w hx (by omega), by omega, fun h => (by cases h), fun _ t ht hb hh => ?_⟩
      obtain ⟨nd', L, R, e1, rfl, _⟩ := ht.node_at
      rw [hx] at e1; cases e1
      exact h3 ⟨hb.1, hb.2.1, hh.1⟩

/-- What package treap tells of a tree. -/
theorem right_ex {l : List Nd} {r : Int} (hn : l.length ≤ 64) : ∃ b q, Snd l r (-1) 4294967296 4294967296 b q ∧ q ≤ 64 ∧ ((b = true ∧ q = l.length) ↔ ∃ t, Good l r t) := by
  obtain ⟨b, q, s, c, t, f⟩ := snd_ex l 4294967296 r (-1) 4294967296 4294967296 (by omega) (by omega) (by omega)
  have := cnt_le l (-1) 4294967296
  refine ⟨b, q, s, by omega, fun ⟨hb, hq⟩ => ?_, fun ⟨u, hu⟩ => ?_⟩
  · obtain ⟨u, u1, u2, u3, u4⟩ := t hb
    exact ⟨u, u1, by omega, hn, u2, u3⟩
  · cases b with
    | false => exact (f rfl u hu.1 hu.2.2.2.1 hu.2.2.2.2).elim
    | true =>
      obtain ⟨v, v1, v2, v3, v4⟩ := t rfl
      rw [Lay.det hu.1 v1] at hu
      exact ⟨rfl, by have := hu.2.1; omega⟩

/- Keys in order. -/
theorem Bst.mem : ∀ {t : T} {lo hi x : Int}, Bst t lo hi → x ∈ t.inord → lo < x ∧ x < hi
  | .nil, _, _, _, _, h => by simp [T.inord] at h
  | .node i k L R, lo, hi, x, b, h => by
    obtain ⟨b1, b2, b3, b4⟩ := b
    simp only [T.inord, List.mem_append, List.mem_cons] at h
    rcases h with h | rfl | h
    · have := Bst.mem b3 h; omega
    · omega
    · have := Bst.mem b4 h; omega
def Rising (l : List Int) : Prop := l.Pairwise (· < ·)
theorem Bst.rising : ∀ {t : T} {lo hi : Int}, Bst t lo hi → Rising t.inord
  | .nil, _, _, _ => List.Pairwise.nil
  | .node i k L R, lo, hi, b => by
    obtain ⟨b1, b2, b3, b4⟩ := b
    unfold Rising
    simp only [T.inord, List.pairwise_append, List.pairwise_cons]
    refine ⟨Bst.rising b3, ⟨fun y hy => (Bst.mem b4 hy).1, Bst.rising b4⟩, fun x hx y hy => ?_⟩
    have := (Bst.mem b3 hx).2
    rcases List.mem_cons.1 hy with rfl | hy
    · exact this
    · have := (Bst.mem b4 hy).1; omega
theorem bst_of : ∀ {t : T} {lo hi : Int}, Rising t.inord → (∀ x ∈ t.inord, lo < x ∧ x < hi) → Bst t lo hi
  | .nil, _, _, _, _ => trivial
  | .node i k L R, lo, hi, s, h => by
    unfold Rising at s
    simp only [T.inord, List.pairwise_append, List.pairwise_cons] at s
    obtain ⟨s1, ⟨s2, s3⟩, s4⟩ := s
    have hk := h k (by simp [T.inord])
    refine ⟨hk.1, hk.2, bst_of s1 fun x hx => ⟨(h x (by simp [T.inord, hx])).1, s4 x hx k (by simp)⟩, bst_of s3 fun x hx => ⟨s2 x hx, (h x (by simp [T.inord, hx])).2⟩⟩
theorem Rising.nodup {l : List Int} (h : Rising l) : l.Nodup := List.Pairwise.imp (fun h => by omega) h
theorem rising_ext : ∀ {l m : List Int}, Rising l → Rising m → (∀ x, x ∈ l ↔ x ∈ m) → l = m
  | [], [], _, _, _ => rfl
  | [], y :: m, _, _, h => by have := (h y).2 (by simp); simp at this
  | x :: l, [], _, _, h => by have := (h x).1 (by simp); simp at this
  | x :: l, y :: m, hl, hm, h => by
    obtain ⟨a1, a2⟩ := List.pairwise_cons.1 hl
    obtain ⟨b1, b2⟩ := List.pairwise_cons.1 hm
    have e : x = y := by
      rcases List.mem_cons.1 ((h x).1 (by simp)) with e | e
      · exact e
      · rcases List.mem_cons.1 ((h y).2 (by simp)) with e' | e'
        · exact e'.symm
        · have := b1 x e; have := a1 y e'; omega
    subst e
    rw [rising_ext a2 b2 fun z => ⟨fun hz => ?_, fun hz => ?_⟩]
    · rcases List.mem_cons.1 ((h z).1 (by simp [hz])) with e | e
      · subst e; have := a1 z hz; omega
      · exact e
    · rcases List.mem_cons.1 ((h z).2 (by simp [hz])) with e | e
      · subst e; have := b1 z hz; omega
      · exact e

/- All nodes are come to. -/
theorem nodup_le : ∀ (n : Nat) (s : List Nat), s.Nodup → (∀ x ∈ s, x < n) → s.length ≤ n
  | 0, s, _, h => by
    cases s with
    | nil => simp
    | cons x r => have := h x (by simp); omega
  | n + 1, s, hs, h => by
    have := nodup_le n (s.erase n) (hs.erase n) fun x hx => by
      have h1 := (hs.mem_erase_iff.1 hx)
      have := h x h1.2
      omega
    have := List.length_erase (l := s) (a := n)
    split at this <;> omega
theorem nodup_all {n : Nat} {s : List Nat} (hs : s.Nodup) (h : ∀ x ∈ s, x < n) (hl : s.length = n) {i : Nat} (hi : i < n) : i ∈ s := by
  apply Classical.byContradiction
  intro hn
  have := nodup_le n (i :: s) (List.nodup_cons.2 ⟨hn, hs⟩) fun x hx => by
    rcases List.mem_cons.1 hx with rfl | hx
    · exact hi
    · exact h x hx
  simp at this
  omega
theorem Lay.key_of {l : List Nd} : ∀ {t : T} {a : Int}, Lay l t a → ∀ i ∈ t.ids, ∃ nd, l[i]? = some nd ∧ nd.key ∈ t.inord
  | .nil, _, _, i, h => by simp [T.ids] at h
  | .node j k L R, a, h, i, hi => by
    obtain ⟨h1, nd, h2, h3, h4, h5⟩ := h
    simp only [T.ids, List.mem_append, List.mem_cons] at hi
    rcases hi with hi | rfl | hi
    · obtain ⟨m, e1, e2⟩ := Lay.key_of h4 i hi
      exact ⟨m, e1, by simp [T.inord, e2]⟩
    · exact ⟨nd, h2, by simp [T.inord, h3]⟩
    · obtain ⟨m, e1, e2⟩ := Lay.key_of h5 i hi
      exact ⟨m, e1, by simp [T.inord, e2]⟩
theorem Lay.nodup {l : List Nd} : ∀ {t : T} {a lo hi : Int}, Lay l t a → Bst t lo hi → t.ids.Nodup
  | .nil, _, _, _, _, _ => List.nodup_nil
  | .node j k L R, a, lo, hi, h, b => by
    obtain ⟨h1, nd, h2, h3, h4, h5⟩ := h
    obtain ⟨b1, b2, b3, b4⟩ := b
    have inL : ∀ i ∈ L.ids, ∃ m, l[i]? = some m ∧ m.key < k := fun i hi => by
      obtain ⟨m, e1, e2⟩ := Lay.key_of h4 i hi
      exact ⟨m, e1, (Bst.mem b3 e2).2⟩
    have inR : ∀ i ∈ R.ids, ∃ m, l[i]? = some m ∧ k < m.key := fun i hi => by
      obtain ⟨m, e1, e2⟩ := Lay.key_of h5 i hi
      exact ⟨m, e1, (Bst.mem b4 e2).1⟩
    simp only [T.ids, List.nodup_append, List.nodup_cons]
    refine ⟨Lay.nodup h4 b3, ⟨fun hj => ?_, Lay.nodup h5 b4⟩, fun x hx y hy e => ?_⟩
    · obtain ⟨m, e1, e2⟩ := inR j hj
      rw [h2] at e1; cases e1; omega
    · subst e
      obtain ⟨m, e1, e2⟩ := inL x hx
      rcases List.mem_cons.1 hy with rfl | hy
      · rw [h2] at e1; cases e1; omega
      · obtain ⟨m', e3, e4⟩ := inR x hy
        rw [e1] at e3; cases e3; omega
theorem Good.all {l : List Nd} {r : Int} {t : T} (h : Good l r t) {i : Nat} (hi : i < l.length) : i ∈ t.ids :=
  nodup_all (h.1.nodup h.2.2.2.1) (fun x hx => by
    obtain ⟨nd, e, _⟩ := h.1.key_of x hx
    exact (List.getElem?_eq_some_iff.1 e).1) (by rw [T.ids_len]; exact h.2.1) hi
/-- The keys of the nodes are the keys of the tree. -/
theorem Lay.key_in {l : List Nd} : ∀ {t : T} {a : Int}, Lay l t a → ∀ x ∈ t.inord, x ∈ l.map Nd.key
  | .nil, _, _, x, h => by simp [T.inord] at h
  | .node j k L R, a, h, x, hx => by
    obtain ⟨h1, nd, h2, h3, h4, h5⟩ := h
    simp only [T.inord, List.mem_append, List.mem_cons] at hx
    rcases hx with hx | rfl | hx
    · exact Lay.key_in h4 x hx
    · exact List.mem_map.2 ⟨nd, List.mem_of_getElem? h2, h3⟩
    · exact Lay.key_in h5 x hx
theorem Good.keys {l : List Nd} {r : Int} {t : T} (h : Good l r t) (x : Int) : x ∈ l.map Nd.key ↔ x ∈ t.inord := by
  refine ⟨fun hx => ?_, fun hx => h.1.key_in x hx⟩
  obtain ⟨nd, h1, rfl⟩ := List.mem_map.1 hx
  obtain ⟨i, hi, e⟩ := List.mem_iff_getElem.1 h1
  obtain ⟨m, e1, e2⟩ := h.1.key_of i (h.all hi)
  rw [List.getElem?_eq_getElem hi, e] at e1
  cases e1
  exact e2
theorem Good.isKey {l : List Nd} {r : Int} {t : T} (h : Good l r t) {x : Int} (hx : x ∈ t.inord) : IsKey x := by
  have := h.2.2.2.1.mem hx
  unfold IsKey; omega
end Go.Proofs.Ytmkkeknimpjfoaa
