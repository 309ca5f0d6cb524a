/-
  Tables by addresses: roots, the order of spots, which tables may be, where an address stands. Of no program.
-/
import Derived.Test.YtmkkeknimpjfoaaRootLine
import Derived.Test.YtmkkeknimpjfoaaTreapShape
namespace Go.Proofs.Ytmkkeknimpjfoaa
set_option linter.unusedVariables false

/-- A spot as a table's memory holds it: its address, its count, its line: where it lies, and what it reads as. -/
structure SV where
  addr : Int
  cnt : Int
  A : Option Addr
  n : Nat
  c : Nat
  line : List Int
instance : Inhabited SV := ⟨⟨0, 0, none, 0, 0, []⟩⟩
/-- What a spot says. -/
def SV.pl (x : SV) : Int × Int × List Int := (x.addr, x.cnt, x.line)
def SV.val (x : SV) : Value := .agg #[.int .i64 x.addr, .int .i64 x.cnt, .slice x.A x.n x.c]

/-- An address's root. -/
def rt (a : Int) : Int := a / 8 % 251
theorem rt_range (a : Int) : 0 ≤ rt a ∧ rt a ≤ 250 := by unfold rt; omega
/-- Does an address stand ahead of another one? -/
def Lt (a b : Int) : Prop := rt a < rt b ∨ (rt a = rt b ∧ a < b)
theorem Lt.irrefl {a : Int} (h : Lt a a) : False := by unfold Lt at h; omega
theorem Lt.trans {a b c : Int} (h : Lt a b) (k : Lt b c) : Lt a c := by unfold Lt at *; omega
theorem Lt.tri (a b : Int) : Lt a b ∨ a = b ∨ Lt b a := by
  unfold Lt
  by_cases h : a = b
  · exact .inr (.inl h)
  · omega
theorem Lt.asymm {a b : Int} (h : Lt a b) (k : Lt b a) : False := by unfold Lt at *; omega
instance (a b : Int) : Decidable (Lt a b) := by unfold Lt; infer_instance

/-- A spot that may be. -/
def SOk (x : SV) : Prop := IsKey x.addr ∧ 0 ≤ x.cnt ∧ x.cnt ≤ 2147483647 ∧ L7.Ln x.line ∧ (x.cnt = 0 ∨ x.line = [])
/-- An empty one. -/
def SNil (x : SV) : Prop := x.cnt = 0 ∧ x.line = []
instance (x : SV) : Decidable (SNil x) := by unfold SNil; infer_instance
/-- A table that may be, but for its length. -/
def TOk (l : List SV) : Prop := (∀ x ∈ l, SOk x ∧ ¬ SNil x) ∧ l.Pairwise (fun a b => Lt a.addr b.addr)
/-- A table that may be. -/
def Tab (l : List SV) : Prop := l.length ≤ 64 ∧ TOk l
theorem TOk.nil : TOk [] := ⟨by simp, List.Pairwise.nil⟩
theorem Tab.nil : Tab [] := ⟨by simp, TOk.nil⟩
theorem Tab.key {l : List SV} (h : TOk l) {x : SV} (hx : x ∈ l) : IsKey x.addr := (h.1 x hx).1.1
theorem TOk.snoc {l : List SV} {x : SV} : TOk (l ++ [x]) ↔ TOk l ∧ SOk x ∧ ¬ SNil x ∧ ∀ y ∈ l, Lt y.addr x.addr := by
  unfold TOk
  rw [List.pairwise_append]
  constructor
  · rintro ⟨h1, h2, _, h3⟩
    exact ⟨⟨fun y hy => h1 y (List.mem_append_left _ hy), h2⟩, (h1 x (by simp)).1, (h1 x (by simp)).2, fun y hy => h3 y hy x (by simp)⟩
  · rintro ⟨⟨h1, h2⟩, h3, h4, h5⟩
    refine ⟨fun y hy => ?_, h2, by simp, fun y hy z hz => ?_⟩
    · rcases List.mem_append.1 hy with h | h
      · exact h1 y h
      · rw [List.mem_singleton] at h; subst h; exact ⟨h3, h4⟩
    · rw [List.mem_singleton] at hz; subst hz; exact h5 y hy
theorem TOk.take {l : List SV} (h : TOk l) (k : Nat) : TOk (l.take k) :=
  ⟨fun x hx => h.1 x (List.mem_of_mem_take hx), h.2.sublist (List.take_sublist k l)⟩
theorem take_snoc {α : Type} {l : List α} {k : Nat} {x : α} (h : l[k]? = some x) : l.take (k + 1) = l.take k ++ [x] := by
  rw [List.take_add_one, h]; rfl
/-- One round of the question whether a table may be. -/
theorem TOk.step {l : List SV} {k : Nat} {x : SV} (hx : l[k]? = some x) (h : TOk (l.take k)) : TOk (l.take (k + 1)) ↔ SOk x ∧ ¬ SNil x ∧ (∀ p y, k = p + 1 → l[p]? = some y → Lt y.addr x.addr) := by
  rw [take_snoc hx, TOk.snoc]
  constructor
  · rintro ⟨_, h1, h2, h3⟩
    refine ⟨h1, h2, fun p y hk hy => h3 y ?_⟩
    subst hk
    exact List.mem_iff_getElem?.2 ⟨p, by rw [List.getElem?_take, if_pos (by omega)]; exact hy⟩
  · rintro ⟨h1, h2, h3⟩
    refine ⟨h, h1, h2, fun y hy => ?_⟩
    cases k with
    | zero => simp at hy
    | succ p =>
      have hlt : p < l.length := by have := (List.getElem?_eq_some_iff.1 hx).1; omega
      have hp : l[p]? = some l[p] := List.getElem?_eq_getElem hlt
      have h4 := h3 p l[p] rfl hp
      rw [take_snoc hp] at hy h
      rcases List.mem_append.1 hy with hy | hy
      · exact ((TOk.snoc.1 h).2.2.2 y hy).trans h4
      · rw [List.mem_singleton] at hy; subst hy; exact h4
theorem TOk.at_ {l : List SV} (h : TOk l) {i j : Nat} {x y : SV} (hij : i < j) (hx : l[i]? = some x) (hy : l[j]? = some y) : Lt x.addr y.addr := by
  obtain ⟨hi, rfl⟩ := List.getElem?_eq_some_iff.1 hx
  obtain ⟨hj, rfl⟩ := List.getElem?_eq_some_iff.1 hy
  exact List.pairwise_iff_getElem.1 h.2 i j hi hj hij

/-- The addresses of a root. -/
def und (l : List SV) (r : Int) : List Int := (l.filter fun x => decide (rt x.addr = r)).map (·.addr)
theorem und_snoc_hit {l : List SV} {x : SV} {r : Int} (h : rt x.addr = r) : und (l ++ [x]) r = und l r ++ [x.addr] := by simp [und, List.filter_append, h]
theorem und_snoc_miss {l : List SV} {x : SV} {r : Int} (h : rt x.addr ≠ r) : und (l ++ [x]) r = und l r := by simp [und, List.filter_append, h]
theorem mem_und {l : List SV} {r a : Int} : a ∈ und l r ↔ ∃ x ∈ l, x.addr = a ∧ rt a = r := by
  unfold und
  rw [List.mem_map]
  constructor
  · rintro ⟨x, hx, rfl⟩
    rw [List.mem_filter, decide_eq_true_eq] at hx
    exact ⟨x, hx.1, rfl, hx.2⟩
  · rintro ⟨x, hx, rfl, h⟩
    exact ⟨x, List.mem_filter.2 ⟨hx, by simpa using h⟩, rfl⟩
theorem und_len (l : List SV) (r : Int) : (und l r).length ≤ l.length := by
  unfold und
  rw [List.length_map]
  exact List.length_filter_le _ _
theorem und_rising {l : List SV} (h : TOk l) (r : Int) : Rising (und l r) := by
  unfold Rising und
  rw [List.pairwise_map]
  refine List.Pairwise.imp_of_mem ?_ (h.2.sublist List.filter_sublist)
  intro a b ha hb hab
  rw [List.mem_filter, decide_eq_true_eq] at ha hb
  unfold Lt at hab
  omega
theorem und_key {l : List SV} (h : TOk l) {r a : Int} (ha : a ∈ und l r) : IsKey a := by
  obtain ⟨x, hx, rfl, _⟩ := mem_und.1 ha
  exact (h.1 x hx).1.1

/-- Where an address's spot stands, or would: how many are ahead. -/
def plc (l : List SV) (a : Int) : Nat := (l.filter fun x => decide (Lt x.addr a)).length
theorem plc_le (l : List SV) (a : Int) : plc l a ≤ l.length := List.length_filter_le _ _
theorem filter_split {l : List SV} (h : TOk l) (a : Int) : ∀ k, (∀ i x, l[i]? = some x → (Lt x.addr a ↔ i < k)) → k ≤ l.length → plc l a = k := by
  intro k hk hl
  unfold plc
  rw [← List.take_append_drop k l, List.filter_append, List.filter_eq_self.2, List.filter_eq_nil_iff.2]
  · simp; omega
  · intro x hx
    obtain ⟨i, hi⟩ := List.mem_iff_getElem?.1 hx
    rw [List.getElem?_drop] at hi
    have := (hk _ _ hi).1
    simp only [decide_eq_true_eq]
    intro h
    have := this h
    omega
  · intro x hx
    obtain ⟨i, hi⟩ := List.mem_iff_getElem?.1 hx
    rw [List.getElem?_take] at hi
    split at hi
    · simp only [decide_eq_true_eq]
      exact (hk _ _ hi).2 (by assumption)
    · cases hi
/-- It stands at k: all ahead of k are ahead of it, and what is at k isn't. -/
theorem plc_at {l : List SV} (h : TOk l) {a : Int} {k : Nat} {x : SV} (hx : l[k]? = some x) (h1 : ¬ Lt x.addr a) (h2 : ∀ p y, k = p + 1 → l[p]? = some y → Lt y.addr a) : plc l a = k := by
  refine filter_split h a k (fun i y hy => ?_) (by have := (List.getElem?_eq_some_iff.1 hx).1; omega)
  constructor
  · intro hya
    rcases Nat.lt_trichotomy i k with h3 | h3 | h3
    · exact h3
    · subst h3; rw [hx] at hy; cases hy; exact absurd hya h1
    · exact absurd ((h.at_ h3 hx hy).trans hya) h1
  · intro hi
    cases k with
    | zero => omega
    | succ p =>
      have hlt : p < l.length := by have := (List.getElem?_eq_some_iff.1 hx).1; omega
      have h3 := h2 p l[p] rfl (List.getElem?_eq_getElem hlt)
      by_cases hip : i = p
      · subst hip; rw [List.getElem?_eq_getElem hlt] at hy; cases hy; exact h3
      · exact (h.at_ (show i < p from by omega) hy (List.getElem?_eq_getElem hlt)).trans h3
theorem plc_end {l : List SV} (h : TOk l) {a : Int} (h1 : ∀ x ∈ l, Lt x.addr a) : plc l a = l.length :=
  filter_split h a _ (fun i x hx => ⟨fun _ => (List.getElem?_eq_some_iff.1 hx).1, fun _ => h1 x (List.mem_of_getElem? hx)⟩) (Nat.le_refl _)
theorem plc_iff {l : List SV} (h : TOk l) (a : Int) {i : Nat} {x : SV} (hx : l[i]? = some x) : Lt x.addr a ↔ i < plc l a := by
  by_cases hall : ∀ y ∈ l, Lt y.addr a
  · rw [plc_end h hall]
    exact ⟨fun _ => (List.getElem?_eq_some_iff.1 hx).1, fun _ => hall x (List.mem_of_getElem? hx)⟩
  · have hex : ∃ k : Nat, ∃ y : SV, l[k]? = some y ∧ ¬ Lt y.addr a := by
      simp only [Classical.not_forall] at hall
      obtain ⟨y, hy, hn⟩ := hall
      obtain ⟨k, hk⟩ := List.mem_iff_getElem?.1 hy
      exact ⟨k, y, hk, hn⟩
    have hmin : ∃ k : Nat, (∃ y : SV, l[k]? = some y ∧ ¬ Lt y.addr a) ∧ ∀ j, j < k → ¬ ∃ y : SV, l[j]? = some y ∧ ¬ Lt y.addr a := by
      obtain ⟨k, hk⟩ := hex
      induction k using Nat.strongRecOn with
      | _ k ih =>
        by_cases hj : ∃ j, j < k ∧ ∃ y : SV, l[j]? = some y ∧ ¬ Lt y.addr a
        · obtain ⟨j, hj1, hj2⟩ := hj
          exact ih j hj1 hj2
        · exact ⟨k, hk, fun j hjk hc => hj ⟨j, hjk, hc⟩⟩
    obtain ⟨k, ⟨y, hy, hn⟩, hf⟩ := hmin
    have hp : plc l a = k := plc_at h hy hn (fun p z hz hz2 => Classical.byContradiction fun hc => hf p (by omega) ⟨z, hz2, hc⟩)
    rw [hp]
    constructor
    · intro hxa
      rcases Nat.lt_trichotomy i k with h3 | h3 | h3
      · exact h3
      · subst h3; rw [hx] at hy; cases hy; exact absurd hxa hn
      · exact absurd ((h.at_ h3 hy hx).trans hxa) hn
    · intro hi
      exact Classical.byContradiction fun hc => hf i hi ⟨x, hx, hc⟩
/-- Whether an address has a spot. -/
def Has (l : List SV) (a : Int) : Prop := ∃ x ∈ l, x.addr = a
theorem has_iff {l : List SV} (h : TOk l) (a : Int) : Has l a ↔ ∃ x : SV, l[plc l a]? = some x ∧ x.addr = a := by
  constructor
  · rintro ⟨x, hx, rfl⟩
    obtain ⟨i, hi⟩ := List.mem_iff_getElem?.1 hx
    have hp : plc l x.addr = i := plc_at h hi (fun hc => hc.irrefl) (fun p y hp hy => h.at_ (show p < i from by omega) hy hi)
    exact ⟨x, by rw [hp]; exact hi, rfl⟩
  · rintro ⟨x, hx, rfl⟩
    exact ⟨x, List.mem_of_getElem? hx, rfl⟩
/-- The spots ahead of an address; those behind it. -/
def front (l : List SV) (a : Int) : List SV := l.filter fun x => decide (Lt x.addr a)
def back (l : List SV) (a : Int) : List SV := l.filter fun x => decide (Lt a x.addr)
theorem front_len (l : List SV) (a : Int) : (front l a).length = plc l a := rfl
theorem front_take {l : List SV} (h : TOk l) (a : Int) : l.take (plc l a) = front l a := by
  conv => rhs; unfold front; rw [← List.take_append_drop (plc l a) l]
  rw [List.filter_append, List.filter_eq_self.2, List.filter_eq_nil_iff.2, List.append_nil]
  · intro x hx
    obtain ⟨i, hi⟩ := List.mem_iff_getElem?.1 hx
    rw [List.getElem?_drop] at hi
    have := (plc_iff h a hi).1
    simp only [decide_eq_true_eq]
    intro h
    have := this h
    omega
  · intro x hx
    obtain ⟨i, hi⟩ := List.mem_iff_getElem?.1 hx
    rw [List.getElem?_take] at hi
    split at hi
    · simp only [decide_eq_true_eq]
      exact (plc_iff h a hi).2 (by assumption)
    · cases hi
/-- How many of a table's spots an address takes the place of. -/
def gap (l : List SV) (a : Int) : Nat := plc l a + (l.filter fun x => decide (x.addr = a)).length
theorem back_drop {l : List SV} (h : TOk l) (a : Int) {k : Nat} (hk : (Has l a ∧ k = plc l a + 1) ∨ (¬ Has l a ∧ k = plc l a)) : l.drop k = back l a := by
  conv => rhs; unfold back; rw [← List.take_append_drop k l]
  rw [List.filter_append, List.filter_eq_nil_iff.2, List.filter_eq_self.2, List.nil_append]
  · intro x hx
    obtain ⟨i, hi⟩ := List.mem_iff_getElem?.1 hx
    rw [List.getElem?_drop] at hi
    simp only [decide_eq_true_eq]
    rcases Lt.tri a x.addr with h1 | h1 | h1
    · exact h1
    · exfalso
      rcases hk with ⟨hh, rfl⟩ | ⟨hh, rfl⟩
      · obtain ⟨y, hy, hya⟩ := (has_iff h a).1 hh
        have := h.at_ (show plc l a < plc l a + 1 + i from by omega) hy hi
        rw [hya, ← h1] at this
        exact this.irrefl
      · exact hh ⟨x, List.mem_of_getElem? hi, h1.symm⟩
    · have := (plc_iff h a hi).1 h1
      rcases hk with ⟨hh, rfl⟩ | ⟨hh, rfl⟩ <;> omega
  · intro x hx
    obtain ⟨i, hi⟩ := List.mem_iff_getElem?.1 hx
    rw [List.getElem?_take] at hi
    split at hi
    · rename_i hik
      simp only [decide_eq_true_eq]
      intro hc
      rcases hk with ⟨hh, rfl⟩ | ⟨hh, rfl⟩
      · by_cases he : i = plc l a
        · subst he
          obtain ⟨y, hy, hya⟩ := (has_iff h a).1 hh
          rw [hi] at hy
          cases hy
          rw [hya] at hc
          exact hc.irrefl
        · exact ((plc_iff h a hi).2 (by omega)).asymm hc
      · exact ((plc_iff h a hi).2 hik).asymm hc
    · cases hi
/-- A table with a spot in its place, or without one, if it is empty. -/
def setl (l : List SV) (s : SV) : List SV := front l s.addr ++ (if SNil s then [] else [s]) ++ back l s.addr
theorem mem_setl {l : List SV} {s x : SV} : x ∈ setl l s ↔ (x ∈ l ∧ x.addr ≠ s.addr) ∨ (x = s ∧ ¬ SNil s) := by
  unfold setl front back
  by_cases hs : SNil s
  · rw [if_pos hs]
    simp only [List.append_nil, List.mem_append, List.mem_filter, decide_eq_true_eq]
    constructor
    · rintro (⟨h, k⟩ | ⟨h, k⟩)
      · exact .inl ⟨h, fun e => by rw [e] at k; exact k.irrefl⟩
      · exact .inl ⟨h, fun e => by rw [e] at k; exact k.irrefl⟩
    · rintro (⟨h, k⟩ | ⟨h, k⟩)
      · rcases Lt.tri x.addr s.addr with h1 | h1 | h1
        · exact .inl ⟨h, h1⟩
        · exact absurd h1 k
        · exact .inr ⟨h, h1⟩
      · exact absurd hs k
  · rw [if_neg hs]
    simp only [List.mem_append, List.mem_filter, decide_eq_true_eq, List.mem_singleton]
    constructor
    · rintro ((⟨h, k⟩ | h) | ⟨h, k⟩)
      · exact .inl ⟨h, fun e => by rw [e] at k; exact k.irrefl⟩
      · exact .inr ⟨h, hs⟩
      · exact .inl ⟨h, fun e => by rw [e] at k; exact k.irrefl⟩
    · rintro (⟨h, k⟩ | ⟨h, k⟩)
      · rcases Lt.tri x.addr s.addr with h1 | h1 | h1
        · exact .inl (.inl ⟨h, h1⟩)
        · exact absurd h1 k
        · exact .inr ⟨h, h1⟩
      · exact .inl (.inr h)
theorem setl_ok {l : List SV} {s : SV} (h : TOk l) (hs : SOk s) : TOk (setl l s) := by
  refine ⟨fun x hx => ?_, ?_⟩
  · rcases mem_setl.1 hx with ⟨h1, _⟩ | ⟨rfl, h1⟩
    · exact h.1 x h1
    · exact ⟨hs, h1⟩
  · unfold setl
    rw [List.pairwise_append, List.pairwise_append]
    refine ⟨⟨h.2.sublist List.filter_sublist, ?_, ?_⟩, h.2.sublist List.filter_sublist, ?_⟩
    · split
      · exact List.Pairwise.nil
      · exact List.pairwise_singleton _ _
    · intro a ha b hb
      split at hb
      · cases hb
      · rw [List.mem_singleton] at hb; subst hb
        unfold front at ha
        rw [List.mem_filter, decide_eq_true_eq] at ha
        exact ha.2
    · intro a ha b hb
      unfold back at hb
      rw [List.mem_filter, decide_eq_true_eq] at hb
      rcases List.mem_append.1 ha with ha | ha
      · unfold front at ha
        rw [List.mem_filter, decide_eq_true_eq] at ha
        exact ha.2.trans hb.2
      · split at ha
        · cases ha
        · rw [List.mem_singleton] at ha; subst ha; exact hb.2
/-- Two tables that may be, with the same spots, are the same. -/
theorem tok_ext : ∀ {l m : List SV}, TOk l → TOk m → (∀ x, x ∈ l ↔ x ∈ m) → l = m
  | [], [], _, _, _ => rfl
  | [], y :: m, _, _, h => by have := (h y).2 (by simp); cases this
  | x :: l, [], _, _, h => by have := (h x).1 (by simp); cases this
  | x :: l, y :: m, hl, hm, h => by
    have h1 := List.pairwise_cons.1 hl.2
    have h2 := List.pairwise_cons.1 hm.2
    have hxy : x = y := by
      rcases List.mem_cons.1 ((h x).1 (by simp)) with e | e
      · exact e
      rcases List.mem_cons.1 ((h y).2 (by simp)) with e' | e'
      · exact e'.symm
      exact absurd (h1.1 y e') (fun c => (h2.1 x e).asymm c)
    subst hxy
    have hr := tok_ext (l := l) (m := m) ⟨fun z hz => hl.1 z (by simp [hz]), h1.2⟩ ⟨fun z hz => hm.1 z (by simp [hz]), h2.2⟩ (fun z => by
      constructor
      · intro hz
        rcases List.mem_cons.1 ((h z).1 (by simp [hz])) with e | e
        · subst e; exact absurd (h1.1 z hz) (fun c => c.irrefl)
        · exact e
      · intro hz
        rcases List.mem_cons.1 ((h z).2 (by simp [hz])) with e | e
        · subst e; exact absurd (h2.1 z hz) (fun c => c.irrefl)
        · exact e)
    rw [hr]
end Go.Proofs.Ytmkkeknimpjfoaa
