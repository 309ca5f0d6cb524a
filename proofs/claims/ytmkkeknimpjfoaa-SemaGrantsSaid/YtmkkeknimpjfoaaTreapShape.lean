/-
  What is ahead of a key in a tree, and the next key. Of no program.
-/
import Derived.Test.YtmkkeknimpjfoaaTreapMath
namespace Go.Proofs.Ytmkkeknimpjfoaa
set_option linter.unusedVariables false

/-- How many nodes are ahead of a key's. -/
def dpt : T → Int → Nat
  | .nil, _ => 0
  | .node _ k L R, x => if x = k then 0 else if x < k then dpt L x + 1 else dpt R x + 1
theorem dpt_le : ∀ {t : T} {x : Int}, dpt t x ≤ t.size
  | .nil, _ => Nat.le_refl _
  | .node _ k L R, x => by
    unfold dpt T.size
    have := @dpt_le L x
    have := @dpt_le R x
    split
    · omega
    · split <;> omega
/-- y lies between a and b. -/
def btw (a b y : Int) : Prop := (a ≤ y ∧ y ≤ b) ∨ (b ≤ y ∧ y ≤ a)
instance (a b y : Int) : Decidable (btw a b y) := by unfold btw; infer_instance
/-- y is the heaviest from it to x. -/
def Ahead (l : List Int) (x y : Int) : Prop := y ≠ x ∧ ∀ z ∈ l, btw y x z → pri z ≤ pri y
open Classical in
noncomputable def ahd (l : List Int) (x y : Int) : Bool := decide (Ahead l x y)
open Classical in
theorem ahd_iff {l : List Int} {x y : Int} : ahd l x y = true ↔ Ahead l x y := by unfold ahd; rw [decide_eq_true_eq]
/-- How many are ahead of x by weight. -/
noncomputable def dep (l : List Int) (x : Int) : Nat := (l.filter fun y => ahd l x y).length
theorem dep_lt {l : List Int} {x : Int} (h : x ∈ l) : dep l x < l.length := by
  classical
  unfold dep
  apply Nat.lt_of_le_of_ne (List.length_filter_le ..)
  intro e
  have := List.length_filter_eq_length_iff.1 e x h
  rw [ahd_iff] at this
  exact this.1 rfl

theorem Hp.le : ∀ {t : T} {w x : Int}, Hp t w → x ∈ t.inord → pri x < w
  | .nil, _, _, _, h => by simp [T.inord] at h
  | .node i k L R, w, x, b, h => by
    obtain ⟨b1, b2, b3⟩ := b
    simp only [T.inord, List.mem_append, List.mem_cons] at h
    rcases h with h | rfl | h
    · have := Hp.le b2 h; omega
    · exact b1
    · have := Hp.le b3 h; omega
open Classical in
theorem dpt_dep : ∀ {t : T} {lo hi w x : Int}, Bst t lo hi → Hp t w → x ∈ t.inord → dpt t x = dep t.inord x
  | .nil, _, _, _, _, _, _, h => by simp [T.inord] at h
  | .node i k L R, lo, hi, w, x, b, hp, h => by
    obtain ⟨b1, b2, b3, b4⟩ := b
    obtain ⟨p1, p2, p3⟩ := hp
    have mL : ∀ y ∈ L.inord, y < k := fun y hy => (b3.mem hy).2
    have mR : ∀ y ∈ R.inord, k < y := fun y hy => (b4.mem hy).1
    have wL : ∀ y ∈ L.inord, pri y < pri k := fun y hy => p2.le hy
    have wR : ∀ y ∈ R.inord, pri y < pri k := fun y hy => p3.le hy
    have memk : k ∈ L.inord ++ k :: R.inord := by simp
    have big : ∀ y ∈ L.inord ++ k :: R.inord, pri y ≤ pri k := fun y hy => by
      simp only [List.mem_append, List.mem_cons] at hy
      rcases hy with hy | rfl | hy
      · have := wL y hy; omega
      · omega
      · have := wR y hy; omega
    unfold dep
    simp only [T.inord, List.filter_append, List.filter_cons, List.length_append]
    simp only [T.inord, List.mem_append, List.mem_cons] at h
    by_cases e : x = k
    · subst e
      have f1 : L.inord.filter (fun y => ahd (L.inord ++ x :: R.inord) x y) = [] := List.filter_eq_nil_iff.2 fun y hy => by
        rw [ahd_iff]
        intro ha
        have := ha.2 x memk (.inl ⟨by have := mL y hy; omega, by omega⟩)
        have := wL y hy; omega
      have f2 : R.inord.filter (fun y => ahd (L.inord ++ x :: R.inord) x y) = [] := List.filter_eq_nil_iff.2 fun y hy => by
        rw [ahd_iff]
        intro ha
        have := ha.2 x memk (.inr ⟨by omega, by have := mR y hy; omega⟩)
        have := wR y hy; omega
      have f3 : ahd (L.inord ++ x :: R.inord) x x = false := Bool.eq_false_iff.2 fun ha => (ahd_iff.1 ha).1 rfl
      rw [f1, f2, f3]
      simp [dpt]
    · have f3 : ahd (L.inord ++ k :: R.inord) x k = true := ahd_iff.2 ⟨fun e' => e e'.symm, fun z hz _ => big z hz⟩
      rw [f3]
      by_cases hlt : x < k
      · have hx : x ∈ L.inord := by
          rcases h with h | h | h
          · exact h
          · exact absurd h e
          · have := mR x h; omega
        have f2 : R.inord.filter (fun y => ahd (L.inord ++ k :: R.inord) x y) = [] := List.filter_eq_nil_iff.2 fun y hy => by
          rw [ahd_iff]
          intro ha
          have := ha.2 k memk (.inr ⟨by omega, by have := mR y hy; omega⟩)
          have := wR y hy; omega
        have f1 : L.inord.filter (fun y => ahd (L.inord ++ k :: R.inord) x y) = L.inord.filter (fun y => ahd L.inord x y) := List.filter_congr fun y hy => by
          refine Bool.eq_iff_iff.2 (ahd_iff.trans (Iff.trans ?_ ahd_iff.symm))
          refine ⟨fun ha => ⟨ha.1, fun z hz hb => ha.2 z (by simp [hz]) hb⟩, fun ha => ⟨ha.1, fun z hz hb => ?_⟩⟩
          simp only [List.mem_append, List.mem_cons] at hz
          have := mL y hy
          unfold btw at hb
          rcases hz with hz | rfl | hz
          · exact ha.2 z hz hb
          · omega
          · have := mR z hz; omega
        rw [f1, f2, dpt, if_neg e, if_pos hlt, dpt_dep b3 p2 hx]
        simp [dep]
      · have hx : x ∈ R.inord := by
          rcases h with h | h | h
          · have := mL x h; omega
          · exact absurd h e
          · exact h
        have f2 : L.inord.filter (fun y => ahd (L.inord ++ k :: R.inord) x y) = [] := List.filter_eq_nil_iff.2 fun y hy => by
          rw [ahd_iff]
          intro ha
          have := ha.2 k memk (.inl ⟨by have := mL y hy; omega, by omega⟩)
          have := wL y hy; omega
        have f1 : R.inord.filter (fun y => ahd (L.inord ++ k :: R.inord) x y) = R.inord.filter (fun y => ahd R.inord x y) := List.filter_congr fun y hy => by
          refine Bool.eq_iff_iff.2 (ahd_iff.trans (Iff.trans ?_ ahd_iff.symm))
          refine ⟨fun ha => ⟨ha.1, fun z hz hb => ha.2 z (by simp [hz]) hb⟩, fun ha => ⟨ha.1, fun z hz hb => ?_⟩⟩
          simp only [List.mem_append, List.mem_cons] at hz
          have := mR y hy
          unfold btw at hb
          rcases hz with hz | rfl | hz
          · have := mL z hz; omega
          · omega
          · exact ha.2 z hz hb
        rw [f1, f2, dpt, if_neg e, if_neg hlt, dpt_dep b4 p3 hx]
        simp [dep]
/-- Two trees of the same keys. -/
theorem Good.depth {l l' : List Nd} {r r' : Int} {t t' : T} (h : Good l r t) (h' : Good l' r' t') (e : t.inord = t'.inord) {x : Int} (hx : x ∈ t.inord) : dpt t x = dpt t' x := by
  rw [dpt_dep h.2.2.2.1 h.2.2.2.2 hx, dpt_dep h'.2.2.2.1 h'.2.2.2.2 (e ▸ hx), e]
/-- One key more, lighter than x: nothing turns ahead of x. -/
theorem dep_more {l m : List Int} {x k : Int} (hl : ∀ y ∈ m, IsKey y) (hm : Rising m) (hs : Rising l) (he : ∀ y, y ∈ m ↔ y = k ∨ y ∈ l) (hk : k ∉ l) (hx : x ∈ l) (hp : pri k < pri x) : dep l x = dep m x := by
  classical
  unfold dep
  have e : l.filter (fun y => ahd l x y) = m.filter (fun y => ahd m x y) := by
    apply rising_ext (hs.filter _) (hm.filter _)
    intro y
    simp only [List.mem_filter, ahd_iff]
    constructor
    · rintro ⟨h1, h2, h3⟩
      refine ⟨(he y).2 (.inr h1), h2, fun z hz hb => ?_⟩
      rcases (he z).1 hz with rfl | hz
      · have := h3 x hx (by unfold btw at *; omega); omega
      · exact h3 z hz hb
    · rintro ⟨h1, h2, h3⟩
      rcases (he y).1 h1 with rfl | h1
      · have := h3 x ((he x).2 (.inr hx)) (by unfold btw; omega); omega
      · exact ⟨h1, h2, fun z hz hb => h3 z ((he z).2 (.inr hz)) hb⟩
  rw [e]

/-- The least key from x on, or s. -/
def nx : T → Int → Int → Int
  | .nil, _, s => s
  | .node _ k L R, x, s => if k < x then nx R x s else nx L x k
theorem nx_find : ∀ {t : T} {lo hi x s : Int}, Bst t lo hi → nx t x s = (t.inord.find? (fun k => decide (x ≤ k))).getD s
  | .nil, _, _, _, _, _ => rfl
  | .node i k L R, lo, hi, x, s, b => by
    obtain ⟨b1, b2, b3, b4⟩ := b
    unfold nx
    simp only [T.inord, List.find?_append, List.find?_cons]
    split
    · rename_i h
      have e : L.inord.find? (fun k => decide (x ≤ k)) = none := List.find?_eq_none.2 fun y hy => by
        have := (b3.mem hy).2; simp; omega
      rw [nx_find b4, e, decide_eq_false (by omega)]
      rfl
    · rename_i h
      rw [nx_find b3, decide_eq_true (by omega)]
      cases L.inord.find? (fun k => decide (x ≤ k)) <;> rfl

end Go.Proofs.Ytmkkeknimpjfoaa
