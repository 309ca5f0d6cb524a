/-
  A slice of elements of one cell that reads as a list, nil let in; a row of the call's own as such a slice.
-/
import Derived.Test.YtclhdpmlmbicjaaBase
import Derived.Deep.AppendLies
import Derived.OwnWalk
import Derived.RegionTactic
namespace Go.Proofs.Ytclhdpmlmbicjaa
open Go.ChangeShapes Go.WideShapes Go.ChangeAt Go.RowKit
set_option linter.unusedVariables false

/-- A goal at which the walk stands still. -/
def Mark (p : Prop) : Prop := p
theorem Mark.stop {p : Prop} (h : Mark p) : p := h
theorem Mark.go {p : Prop} (h : p) : Mark p := h

section
variable {α : Type}
/-- The slice at A, of n elements, reads as l. -/
def EMem (enc : α → Value) (ok : α → Prop) (w : World) (A : Option Addr) (n : Nat) (l : List α) : Prop :=
  l.length = n ∧ (∀ x ∈ l, ok x) ∧ (0 < n → ∃ b off, A = some ⟨b, off, none⟩ ∧ b < w.heap.size ∧ ∀ j x, l[j]? = some x → w.cell? ⟨b, off + j, none⟩ = some (enc x))
variable {enc : α → Value} {ok : α → Prop} {w w' : World} {A : Option Addr} {n : Nat} {l : List α}
theorem EMem.nil_ : EMem enc ok w A 0 [] := ⟨rfl, by simp, fun h => absurd h (by omega)⟩
theorem EMem.gr (h : EMem enc ok w A n l) (g : Gr w w') : EMem enc ok w' A n l :=
  ⟨h.1, h.2.1, fun hn => by
    obtain ⟨b, off, e, hb, hc⟩ := h.2.2 hn
    exact ⟨b, off, e, Nat.lt_of_lt_of_le hb g.size, fun j u hu => (g.cell (p := ⟨b, off + j, none⟩) hb).trans (hc j u hu)⟩⟩
/-- In a world that keeps all below B, where the row lies below B. -/
theorem EMem.below {B : Nat} (h : EMem enc ok w A n l) (g : Below B w w') (hs : w.heap.size ≤ B) : EMem enc ok w' A n l :=
  h.gr (Below.mono g hs)
theorem EMem.at_ {k : Nat} (h : EMem enc ok w A n l) (hk : k < n) :
    ∃ b off x, A = some ⟨b, off, none⟩ ∧ b < w.heap.size ∧ l[k]? = some x ∧ ok x ∧ w.cell? ⟨b, off + k, none⟩ = some (enc x) := by
  obtain ⟨b, off, e, hb, hc⟩ := h.2.2 (by omega)
  have hl : k < l.length := by have := h.1; omega
  have hx : l[k]? = some l[k] := List.getElem?_eq_getElem hl
  exact ⟨b, off, l[k], e, hb, hx, h.2.1 l[k] (List.getElem_mem hl), hc _ _ hx⟩
theorem EMem.take_ (h : EMem enc ok w A n l) (k : Nat) (hk : k ≤ n) : EMem enc ok w A k (l.take k) :=
  ⟨by rw [List.length_take, h.1]; omega, fun x hx => h.2.1 x (List.mem_of_mem_take hx), fun hn => by
    obtain ⟨b, off, e, hb, hc⟩ := h.2.2 (by omega)
    refine ⟨b, off, e, hb, fun j u hu => hc j u ?_⟩
    rw [List.getElem?_take] at hu
    split at hu
    · exact hu
    · cases hu⟩
theorem EMem.drop_ (h : EMem enc ok w A n l) {b off : Nat} (hA : A = some ⟨b, off, none⟩) (k : Nat) (hk : k ≤ n) : EMem enc ok w (some ⟨b, off + k, none⟩) (n - k) (l.drop k) :=
  ⟨by rw [List.length_drop, h.1], fun x hx => h.2.1 x (List.mem_of_mem_drop hx), fun hn => by
    obtain ⟨b', off', e, hb, hc⟩ := h.2.2 (by omega)
    rw [hA] at e
    cases e
    refine ⟨b, off + k, rfl, hb, fun j u hu => ?_⟩
    rw [List.getElem?_drop] at hu
    rw [Nat.add_assoc]
    exact hc _ u hu⟩
theorem EMem.len (h : EMem enc ok w A n l) : l.length = n := h.1
theorem EMem.all (h : EMem enc ok w A n l) : ∀ x ∈ l, ok x := h.2.1

/-- What is owned reads. -/
theorem own_emem {base : Nat} {e : TypeId} {v : Value} (hl : l.length = n) (hb : ∀ x ∈ l, ok x) (h : w.ownsRow base e 1 v n (l.map enc)) : ∃ B m, v = .slice B n m ∧ EMem enc ok w B n l ∧ n ≤ m ∧ m ≤ maxLen := by
  rcases h.2 with ⟨rfl, rfl⟩ | ⟨g, cap, cur, rfl, _, hg, hnc, hcm, hs, ht⟩
  · exact ⟨none, 0, rfl, ⟨hl, hb, fun h => absurd h (by omega)⟩, Nat.le_refl _, Nat.zero_le _⟩
  · refine ⟨_, _, rfl, ⟨hl, hb, fun _ => ⟨g, 0, rfl, (Array.getElem?_eq_some_iff.1 hg).1, fun j u hu => ?_⟩⟩, hnc, hcm⟩
    rw [Nat.zero_add, cell_of_row w g j cur _ (0, 0) hg]
    have hu' : (l.map enc)[j]? = some (enc u) := by rw [List.getElem?_map, hu]; rfl
    rw [← ht, List.getElem?_take] at hu'
    split at hu'
    · simpa using hu'
    · cases hu'
end

section
variable {P : Program} (w : World)
theorem run_append_of_nil (base : Nat) (t ty e : TypeId) (i : TypeInfo) (size : Nat) (ht : P.underlying t = some (.slice e)) (hi : P.info? e = some i)
    (v : Value) (n : Nat) (xs : List Value) (hown : w.ownsRow base e size v n xs) (c : Nat) : (Builtin.append_ #[t, t] ty #[v, .slice none 0 c]).run P w = .ok v w := by
  rcases hown.2 with ⟨rfl, rfl⟩ | ⟨g, cap, cur, rfl, _, _, hnc, _⟩
  · simp [Builtin.append_, run_underlying ht, sizeOf, typeInfo, hi, Builtin.lenOf, Builtin.firstCells]
  · simp [Builtin.append_, run_underlying ht, sizeOf, typeInfo, hi, Builtin.lenOf, Builtin.firstCells, hnc, storeCells]
variable {α : Type} (enc : α → Value) (ok : α → Prop)
/-- APPEND OF A SLICE THAT READS, NIL OR NOT, ONTO A ROW OF THE CALL'S OWN (after the kit's extra-words.md 3). -/
theorem run_append_emem (h1c : ∀ x, (enc x).oneCell' = true) (base : Nat) (t ty e : TypeId) (i : TypeInfo) (z : Value) (bytes : Nat) (ht : P.underlying t = some (.slice e)) (hi : P.info? e = some i) (hz : i.zero = some z)
    (hsize : i.size = 1) (hby : i.bytes = bytes) (hzs : z.cells.size = 1)
    (v : Value) (n : Nat) (xs : List α) (hown : w.ownsRow base e 1 v n (xs.map enc)) (A : Option Addr) (m c : Nat) (news : List α) (hr : EMem enc ok w A m news)
    (h63 : n + m ≤ maxLen) (hbytes : (n + m) * bytes ≤ 140737488355328) (hbase : base ≤ w.heap.size) :
    ∃ v' w', (Builtin.append_ #[t, t] ty #[v, .slice A m c]).run P w = .ok v' w' ∧ w'.ownsRow base e 1 v' (n + m) ((xs ++ news).map enc) ∧ w.grownBy w' v.ownBlock := by
  rw [List.map_append]
  rcases A with _ | ad
  · have hm : m = 0 := by
      rcases Nat.eq_zero_or_pos m with h0 | h0
      · exact h0
      · obtain ⟨b, off, h, _⟩ := hr.2.2 h0
        cases h
    subst hm
    have hn : news = [] := List.eq_nil_of_length_eq_zero hr.1
    subst hn
    exact ⟨v, w, run_append_of_nil w base t ty e i 1 ht hi v n _ hown c, by simpa using hown, World.grownBy.refl w _⟩
  · have hcells : ∀ j u, (news.map enc)[j]? = some u → w.cell? (ad.add j) = some u := by
      intro j u hu
      rcases Nat.eq_zero_or_pos m with h0 | h0
      · subst h0
        have hn : news = [] := List.eq_nil_of_length_eq_zero hr.1
        subst hn
        simp at hu
      · obtain ⟨b, off, h, _, hc⟩ := hr.2.2 h0
        injection h with h
        subst h
        rw [List.getElem?_map, Option.map_eq_some_iff] at hu
        obtain ⟨x, hx, rfl⟩ := hu
        rw [add_plain]
        exact hc j x hx
    obtain ⟨v', w', hrun, h2, h3, _⟩ := run_append_own (P := P) w base t ty e i z 1 bytes ht hi hz hsize hby hzs (by decide) v n _ hown ad m c (news.map enc) (by rw [List.length_map, hr.1]; omega) hcells (fun u hu => by obtain ⟨x, _, rfl⟩ := List.mem_map.1 hu; exact h1c x) h63 hbytes hbase
    exact ⟨v', w', hrun, h2, h3⟩
theorem wp_append_emem {o : Oper} {a : Act} {K : Act → World → Prop} {Q : Exit → Act → World → Prop} (s x : Operand) (t : TypeId)
    (ho : o.op = .call { callee := .builtin .append, args := #[s, x], argTypes := #[t, t] })
    (h1c : ∀ x, (enc x).oneCell' = true) (base : Nat) (e : TypeId) (i : TypeInfo) (z : Value) (bytes : Nat) (ht : P.underlying t = some (.slice e)) (hi : P.info? e = some i) (hz : i.zero = some z)
    (hsize : i.size = 1) (hby : i.bytes = bytes) (hzs : z.cells.size = 1)
    (v : Value) (n : Nat) (xs : List α) (hs : a.eval s = v) (hown : w.ownsRow base e 1 v n (xs.map enc)) (A : Option Addr) (m c : Nat) (news : List α) (hx : a.eval x = .slice A m c) (hr : EMem enc ok w A m news)
    (h63 : n + m ≤ maxLen) (hbytes : (n + m) * bytes ≤ 140737488355328) (hbase : base ≤ w.heap.size)
    (h : ∀ v' w', w'.ownsRow base e 1 v' (n + m) ((xs ++ news).map enc) → w.grownBy w' v.ownBlock → K (a.put o.dst v') w') : o.wp P a w K Q := by
  obtain ⟨v', w', hrun, h2, h3⟩ := run_append_emem (P := P) w enc ok h1c base t o.type e i z bytes ht hi hz hsize hby hzs v n xs hown A m c news hr h63 hbytes hbase
  unfold Oper.wp execOp
  simp only [ho, resolve, invoke, builtin, Sem.run_bind, Sem.run_pure, Result.andThen_ok, List.map_toArray, List.map_cons, List.map_nil, hs, hx, hrun]
  exact h v' w' h2 h3
theorem wpList_append_emem {ops : Array Oper} {rest : List Oper} {o : Oper} {a : Act} {Q : Exit → Act → World → Prop} (hgd : o.guard = none) (s x : Operand) (t : TypeId)
    (ho : o.op = .call { callee := .builtin .append, args := #[s, x], argTypes := #[t, t] })
    (h1c : ∀ x, (enc x).oneCell' = true) (base : Nat) (e : TypeId) (i : TypeInfo) (z : Value) (bytes : Nat) (ht : P.underlying t = some (.slice e)) (hi : P.info? e = some i) (hz : i.zero = some z)
    (hsize : i.size = 1) (hby : i.bytes = bytes) (hzs : z.cells.size = 1)
    (v : Value) (n : Nat) (xs : List α) (hs : a.eval s = v) (hown : w.ownsRow base e 1 v n (xs.map enc)) (A : Option Addr) (m c : Nat) (news : List α) (hx : a.eval x = .slice A m c) (hr : EMem enc ok w A m news)
    (h63 : n + m ≤ maxLen) (hbytes : (n + m) * bytes ≤ 140737488355328) (hbase : base ≤ w.heap.size)
    (h : ∀ v' w', w'.ownsRow base e 1 v' (n + m) ((xs ++ news).map enc) → w.grownBy w' v.ownBlock → wpList P ops Q rest (a.put o.dst v') w') : wpList P ops Q (o :: rest) a w :=
  wpList_plain hgd fun _ hK => wp_append_emem w enc ok s x t ho h1c base e i z bytes ht hi hz hsize hby hzs v n xs hs hown A m c news hx hr h63 hbytes hbase fun v' w' h2 h3 => hK _ _ (h v' w' h2 h3)
theorem step_append_emem {ops : Array Oper} {o : Oper} {a : Act} {K : Act → World → Prop} {Q : Exit → Act → World → Prop} {E : Prop} (hgd : o.guard = none) (s x : Operand) (t : TypeId)
    (ho : o.op = .call { callee := .builtin .append, args := #[s, x], argTypes := #[t, t] })
    (h1c : ∀ x, (enc x).oneCell' = true) (base : Nat) (e : TypeId) (i : TypeInfo) (z : Value) (bytes : Nat) (ht : P.underlying t = some (.slice e)) (hi : P.info? e = some i) (hz : i.zero = some z)
    (hsize : i.size = 1) (hby : i.bytes = bytes) (hzs : z.cells.size = 1)
    (v : Value) (n : Nat) (xs : List α) (hs : a.eval s = v) (hown : w.ownsRow base e 1 v n (xs.map enc)) (A : Option Addr) (m c : Nat) (news : List α) (hx : a.eval x = .slice A m c) (hr : EMem enc ok w A m news)
    (h63 : n + m ≤ maxLen) (hbytes : (n + m) * bytes ≤ 140737488355328) (hbase : base ≤ w.heap.size)
    (h : ∀ v' w', w'.ownsRow base e 1 v' (n + m) ((xs ++ news).map enc) → w.grownBy w' v.ownBlock → K (a.put o.dst v') w') :
    if Region.wanted o (yielded ops a.tmps) = true then Oper.wp P o a w K Q else E := by
  have hw : Region.wanted o (yielded ops a.tmps) = true := by simp [Region.wanted, hgd]
  rw [if_pos hw]
  exact wp_append_emem w enc ok s x t ho h1c base e i z bytes ht hi hz hsize hby hzs v n xs hs hown A m c news hx hr h63 hbytes hbase h
end

/-- A new slice that reads as l. -/
def GotE {α : Type} (enc : α → Value) (ok : α → Prop) (w : World) (n : Nat) (l : List α) (e : Ending) (w' : World) : Prop :=
  ∃ B m, e = .returned (.slice B n m) ∧ EMem enc ok w' B n l ∧ n ≤ m ∧ m ≤ maxLen ∧ Gr w w'
end Go.Proofs.Ytclhdpmlmbicjaa
