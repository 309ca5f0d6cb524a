/-
  A key that is greater than all of a tree's is put in: the tree, the nodes. Of no program.
-/
import Derived.Test.YtmkkeknimpjfoaaTreapSort
import Derived.Test.YtmkkeknimpjfoaaTreapFollow
namespace Go.Proofs.Ytmkkeknimpjfoaa
open Go.ChangeShapes Go.WideShapes Go.ChangeAt Go.RowKit
set_option linter.unusedVariables false

/-- The tree with one key more, at its right. -/
def ins (i : Nat) (x : Int) : T → T
  | .nil => .node i x .nil .nil
  | .node j k L R => if pri k < pri x then .node i x (.node j k L R) .nil else .node j k L (ins i x R)
/-- Whose right link is led elsewhere. -/
def hold (x : Int) : T → Option Nat
  | .nil => none
  | .node j k L R => if pri k < pri x then none else some ((hold x R).getD j)
def gdir (x k : Int) : Option Bool := if pri k < pri x then none else some true
section
variable {i : Nat} {x : Int} {l : List Nd}
theorem ins_inord : ∀ t : T, (ins i x t).inord = t.inord ++ [x]
  | .nil => rfl
  | .node j k L R => by
    unfold ins
    split
    · simp [T.inord]
    · simp [T.inord, ins_inord R]
theorem ins_size : ∀ t : T, (ins i x t).size = t.size + 1
  | .nil => rfl
  | .node j k L R => by
    unfold ins
    split
    · simp [T.size]
    · simp [T.size, ins_size R]; omega
theorem ins_ids {y : Nat} : ∀ {t : T}, y ∈ (ins i x t).ids → y = i ∨ y ∈ t.ids
  | .nil, h => by simp [ins, T.ids] at h; exact .inl h
  | .node j k L R, h => by
    unfold ins at h
    split at h
    · simp only [T.ids, List.mem_append, List.mem_cons, List.not_mem_nil, or_false] at h ⊢
      rcases h with h | h
      · exact .inr h
      · exact .inl h
    · simp only [T.ids, List.mem_append, List.mem_cons] at h ⊢
      rcases h with h | h | h
      · exact .inr (.inl h)
      · exact .inr (.inr (.inl h))
      · rcases ins_ids h with h | h
        · exact .inl h
        · exact .inr (.inr (.inr h))
theorem ins_nodup : ∀ {t : T}, t.ids.Nodup → i ∉ t.ids → (ins i x t).ids.Nodup
  | .nil, _, _ => by simp [ins, T.ids]
  | .node j k L R, h, hi => by
    unfold ins
    simp only [T.ids, List.nodup_append, List.nodup_cons] at h
    simp only [T.ids, List.mem_append, List.mem_cons, not_or] at hi
    obtain ⟨h1, ⟨h2, h3⟩, h4⟩ := h
    obtain ⟨i1, i2, i3⟩ := hi
    split
    · simp only [T.ids, List.nodup_append, List.nodup_cons, List.not_mem_nil, not_false_iff, List.nodup_nil, true_and, List.mem_append, List.mem_cons]
      refine ⟨⟨h1, ⟨h2, h3⟩, fun a ha b hb => h4 a ha b (List.mem_cons.2 hb)⟩, fun a ha b hb e => ?_⟩
      have hb' : b = i := hb.resolve_right (fun h => h)
      subst hb' e
      rcases ha with ha | ha | ha
      · exact i1 ha
      · exact i2 ha
      · exact i3 ha
    · simp only [T.ids, List.nodup_append, List.nodup_cons]
      refine ⟨h1, ⟨fun hj => ?_, ins_nodup h3 i3⟩, fun a ha b hb e => ?_⟩
      · rcases ins_ids hj with e | e
        · exact i2 e.symm
        · exact h2 e
      · subst e
        rcases List.mem_cons.1 hb with e | hb
        · exact h4 a ha j (by simp) e
        · rcases ins_ids hb with e | e
          · subst e; exact i1 ha
          · exact h4 a ha a (by simp [e]) rfl
theorem ins_hp : ∀ {t : T} {w : Int}, Hp t w → pri x < w → (∀ y ∈ t.inord, pri y ≠ pri x) → Hp (ins i x t) w
  | .nil, _, _, h, _ => ⟨h, trivial, trivial⟩
  | .node j k L R, w, hp, h, hn => by
    obtain ⟨p1, p2, p3⟩ := hp
    unfold ins
    split
    · rename_i hlt
      exact ⟨h, ⟨hlt, p2, p3⟩, trivial⟩
    · have := hn k (by simp [T.inord])
      exact ⟨p1, p2, ins_hp p3 (by omega) fun y hy => hn y (by simp [T.inord, hy])⟩
theorem Lay.set {j : Nat} {nd : Nd} : ∀ {t : T} {a : Int}, Lay l t a → j ∉ t.ids → Lay (l.set j nd) t a
  | .nil, _, h, _ => h
  | .node k key L R, a, h, hj => by
    simp only [T.ids, List.mem_append, List.mem_cons, not_or] at hj
    obtain ⟨h1, m, h2, h3, h4, h5⟩ := h
    exact ⟨h1, m, by rw [List.getElem?_set_ne (by omega)]; exact h2, h3, h4.set hj.1, h5.set hj.2.2⟩
theorem hold_mem : ∀ {t : T} {j : Nat}, hold x t = some j → j ∈ t.ids
  | .nil, _, h => by simp [hold] at h
  | .node k key L R, j, h => by
    unfold hold at h
    split at h
    · cases h
    · cases hr : hold x R with
      | none => rw [hr] at h; simp at h; simp [T.ids, h]
      | some j' => rw [hr] at h; simp at h; subst h; have := hold_mem hr; simp [T.ids, this]
theorem lay_ins : ∀ {t : T} {a : Int}, Lay l t a → t.ids.Nodup → i ∉ t.ids → i < l.length →
    (hold x t = none → Lay (l.set i ⟨x, a, -1⟩) (ins i x t) i) ∧
    (∀ j, hold x t = some j → ∃ nd, l[j]? = some nd ∧ Lay ((l.set i ⟨x, nd.right, -1⟩).set j ⟨nd.key, nd.left, i⟩) (ins i x t) a)
  | .nil, a, h, _, _, hi => by
    refine ⟨fun _ => ⟨rfl, _, List.getElem?_set_self hi, rfl, ?_, rfl⟩, fun j h => by simp [hold] at h⟩
    exact h
  | .node k key L R, a, h, hd, hn, hi => by
    have hlay := h
    obtain ⟨h1, m, h2, h3, h4, h5⟩ := h
    have hd0 := hd
    have hn0 := hn
    simp only [T.ids, List.nodup_append, List.nodup_cons] at hd
    simp only [T.ids, List.mem_append, List.mem_cons, not_or] at hn
    obtain ⟨d1, ⟨d2, d3⟩, d4⟩ := hd
    obtain ⟨n1, n2, n3⟩ := hn
    have kL : k ∉ L.ids := fun hk => d4 k hk k (by simp) rfl
    unfold hold ins
    by_cases hlt : pri key < pri x
    · simp only [if_pos hlt]
      refine ⟨fun _ => ⟨rfl, _, List.getElem?_set_self hi, rfl, hlay.set hn0, rfl⟩, fun j h => by cases h⟩
    · simp only [if_neg hlt]
      obtain ⟨g1, g2⟩ := lay_ins h5 d3 n3 hi
      refine ⟨fun h => (by cases h), fun j hj => ?_⟩
      cases hr : hold x R with
      | none =>
        rw [hr] at hj
        simp only [Option.getD_none, Option.some.injEq] at hj
        subst hj
        have hlen : k < (l.set i ⟨x, m.right, -1⟩).length := by have := (List.getElem?_eq_some_iff.1 h2).1; simpa using this
        refine ⟨m, h2, h1, _, List.getElem?_set_self hlen, h3, (h4.set n1).set kL, (g1 hr).set fun hk => ?_⟩
        rcases ins_ids hk with e | e
        · exact n2 e.symm
        · exact d2 e
      | some j' =>
        rw [hr] at hj
        simp only [Option.getD_some, Option.some.injEq] at hj
        subst hj
        obtain ⟨nd, e1, e2⟩ := g2 j' hr
        have hj' := hold_mem hr
        refine ⟨nd, e1, h1, m, ?_, h3, (h4.set n1).set (fun hk => d4 j' hk j' (by simp [hj']) rfl), e2⟩
        rw [List.getElem?_set_ne (fun e => d2 (by rw [← e]; exact hj')), List.getElem?_set_ne (fun e => n2 e)]
        exact h2
/-- Where follow ends. -/
theorem run_grow {b off : Nat} : ∀ {t : T} {pb po : Nat} {s : Int}, (run (gdir x) (fun _ s => s) b off t pb po s).1 = match hold x t with | none => (pb, po) | some j => (b, off + j * 3 + 2)
  | .nil, _, _, _ => rfl
  | .node j k L R, pb, po, s => by
    unfold hold
    by_cases hlt : pri k < pri x
    · rw [run_stop (show gdir x k = none from if_pos hlt), if_pos hlt]
    · rw [run_go (show gdir x k = some true from if_neg hlt), if_neg hlt, if_pos rfl, run_grow]
      cases hold x R <;> rfl
end
/-- The cells of nodes. -/
def NV (V : Array Value) (l : List Nd) : Prop := V.size = l.length * 3 ∧ ∀ j nd, l[j]? = some nd → V[j * 3]? = some (.int .i64 nd.key) ∧ V[j * 3 + 1]? = some (.int .i64 nd.left) ∧ V[j * 3 + 2]? = some (.int .i64 nd.right)
section
variable {V : Array Value} {l : List Nd} {i j : Nat} {nd : Nd}
theorem NV.made (n : Nat) : NV (madeCells (Value.agg #[.int .i64 0, .int .i64 0, .int .i64 0]).cells (n * 3)) (List.replicate n ⟨0, 0, 0⟩) := by
  have key : ∀ m, m < n * 3 → (madeCells (Value.agg #[.int .i64 0, .int .i64 0, .int .i64 0]).cells (n * 3))[m]? = some (.int .i64 0) := fun m hm => by
    have : (Value.agg #[Value.int .i64 0, Value.int .i64 0, Value.int .i64 0]).cells = #[.int .i64 0, .int .i64 0, .int .i64 0] := rfl
    rw [this]
    unfold madeCells
    rw [Array.getElem?_map, Array.getElem?_range, if_pos hm]
    have h3 : m % 3 < 3 := Nat.mod_lt _ (by decide)
    simp only [Option.map_some]
    show some (#[Value.int .i64 0, Value.int .i64 0, Value.int .i64 0][m % 3]!) = _
    rcases (by omega : m % 3 = 0 ∨ m % 3 = 1 ∨ m % 3 = 2) with h | h | h <;> rw [h] <;> rfl
  refine ⟨by rw [size_madeCells, List.length_replicate], fun j nd h => ?_⟩
  obtain ⟨h1, h2⟩ := List.getElem?_eq_some_iff.1 h
  rw [List.length_replicate] at h1
  rw [List.getElem_replicate] at h2
  subst h2
  exact ⟨key _ (by omega), key _ (by omega), key _ (by omega)⟩
theorem NV.set (h : NV V l) (hi : i < l.length) (k a b : Int) : NV (((V.setIfInBounds (i * 3) (.int .i64 k)).setIfInBounds (i * 3 + 1) (.int .i64 a)).setIfInBounds (i * 3 + 2) (.int .i64 b)) (l.set i ⟨k, a, b⟩) := by
  have hs := h.1
  refine ⟨by simp [hs], fun j nd hj => ?_⟩
  by_cases e : i = j
  · subst e
    rw [List.getElem?_set_self hi] at hj
    cases hj
    simp [Array.getElem?_setIfInBounds, hs]
    omega
  · rw [List.getElem?_set_ne e] at hj
    obtain ⟨a1, a2, a3⟩ := h.2 j nd hj
    simp only [Array.getElem?_setIfInBounds, a1, a2, a3]
    refine ⟨?_, ?_, ?_⟩ <;> (repeat' split) <;> first | rfl | omega
theorem NV.right (h : NV V l) (hj : l[j]? = some nd) (v : Int) : NV (V.setIfInBounds (j * 3 + 2) (.int .i64 v)) (l.set j ⟨nd.key, nd.left, v⟩) := by
  have hs := h.1
  have hlt := (List.getElem?_eq_some_iff.1 hj).1
  refine ⟨by simp [hs], fun k m hk => ?_⟩
  by_cases e : j = k
  · subst e
    rw [List.getElem?_set_self hlt] at hk
    cases hk
    obtain ⟨a1, a2, a3⟩ := h.2 j nd hj
    simp [Array.getElem?_setIfInBounds, hs, a1, a2]
    omega
  · rw [List.getElem?_set_ne e] at hk
    obtain ⟨a1, a2, a3⟩ := h.2 k m hk
    simp only [Array.getElem?_setIfInBounds, a1, a2, a3]
    refine ⟨?_, ?_, ?_⟩ <;> (repeat' split) <;> first | rfl | omega
theorem NV.mem {w : World} {g n : Nat} {t : TypeId} (h : NV V l) (hn : l.length = n) (hB : ∀ nd ∈ l, B64 nd.key ∧ B64 nd.left ∧ B64 nd.right) (hb : Blk w g V t) : NMem w (some ⟨g, 0, none⟩) n l :=
  ⟨hn, hB, fun _ => ⟨g, 0, rfl, hb.lt, fun j nd hj => by
    obtain ⟨a1, a2, a3⟩ := h.2 j nd hj
    simp only [Nat.zero_add]
    exact ⟨(hb.at_ a1).1, (hb.at_ a2).1, (hb.at_ a3).1⟩⟩⟩
end
end Go.Proofs.Ytmkkeknimpjfoaa
