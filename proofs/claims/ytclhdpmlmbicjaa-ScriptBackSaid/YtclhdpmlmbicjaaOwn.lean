/-
  A slice of the call's own memory that begins anywhere in its block (it was cut at its front): read, cut, appended to.
-/
import Derived.Test.YtclhdpmlmbicjaaRow
import Derived.ArgAppend
import Derived.Deep.Upon
namespace Go.Proofs.Ytclhdpmlmbicjaa
open Go.ChangeShapes Go.WideShapes Go.ChangeAt Go.RowKit
set_option linter.unusedVariables false

section
variable {α : Type}
/-- The slice at A, of n elements, room for c, reads as l; it is nil, or lies in a block at base or behind, all its cells there. -/
def OMem (enc : α → Value) (ok : α → Prop) (base : Nat) (w : World) (A : Option Addr) (n c : Nat) (l : List α) : Prop :=
  EMem enc ok w A n l ∧ n ≤ c ∧ c ≤ maxLen ∧ ((A = none ∧ c = 0) ∨ ∃ b off, A = some ⟨b, off, none⟩ ∧ base ≤ b ∧ b < w.heap.size ∧ ∀ j, j < c → (w.cell? ⟨b, off + j, none⟩).isSome = true ∧ w.frozen? ⟨b, off + j, none⟩ = false)
variable {enc : α → Value} {ok : α → Prop} {base : Nat} {w w' : World} {A : Option Addr} {n c : Nat} {l : List α}
theorem OMem.nil_ : OMem enc ok base w none 0 0 [] := ⟨EMem.nil_, Nat.le_refl _, Nat.zero_le _, .inl ⟨rfl, rfl⟩⟩
theorem OMem.mem (h : OMem enc ok base w A n c l) : EMem enc ok w A n l := h.1
theorem OMem.le (h : OMem enc ok base w A n c l) : n ≤ c := h.2.1
theorem OMem.max (h : OMem enc ok base w A n c l) : c ≤ maxLen := h.2.2.1
theorem OMem.same (h : OMem enc ok base w A n c l) (hs : w.heap.size ≤ w'.heap.size) (hb : ∀ k, base ≤ k → k < w.heap.size → w'.heap[k]? = w.heap[k]?) : OMem enc ok base w' A n c l := by
  obtain ⟨h1, h2, h3, h4⟩ := h
  rcases h4 with ⟨rfl, rfl⟩ | ⟨b, off, rfl, h5, h6, h7⟩
  · refine ⟨⟨h1.1, h1.2.1, fun hn => absurd hn (by omega)⟩, h2, h3, .inl ⟨rfl, rfl⟩⟩
  · have e := hb b h5 h6
    refine ⟨⟨h1.1, h1.2.1, fun hn => ?_⟩, h2, h3, .inr ⟨b, off, rfl, h5, by omega, fun j hj => ?_⟩⟩
    · obtain ⟨b', off', e', hb', hc⟩ := h1.2.2 hn
      cases e'
      exact ⟨b, off, rfl, by omega, fun j x hx => (World.cell?_of_block (a := ⟨b, off + j, none⟩) e).trans (hc j x hx)⟩
    · rw [World.cell?_of_block (a := ⟨b, off + j, none⟩) e, World.frozen?_of_block (a := ⟨b, off + j, none⟩) e]
      exact h7 j hj
theorem OMem.gr (h : OMem enc ok base w A n c l) (g : Gr w w') : OMem enc ok base w' A n c l := h.same g.size fun k _ hk => g.block k hk
theorem OMem.st (h : OMem enc ok base w A n c l) {p : Addr} (hp : p.block < base) (u : Value) : OMem enc ok base (w.setCell p u) A n c l :=
  h.same (by simp [World.setCell]) fun k hk _ => Below.heap_setCell w p u k (by omega)
theorem OMem.drN (h : OMem enc ok base w A n c l) (k : Nat) : OMem enc ok base (w.drewN k) A n c l := h.same (Nat.le_refl _) fun _ _ _ => rfl
/-- Cut at its front. -/
theorem OMem.cut (h : OMem enc ok base w A n c l) (k : Nat) (hk : k ≤ n) : OMem enc ok base w (if c - k = 0 then A else A.map (·.add k)) (n - k) (c - k) (l.drop k) := by
  obtain ⟨h1, h2, h3, h4⟩ := h
  rcases h4 with ⟨rfl, rfl⟩ | ⟨b, off, rfl, h5, h6, h7⟩
  · obtain rfl : n = 0 := by omega
    have : k = 0 := by omega
    subst this
    have hl : l = [] := List.eq_nil_of_length_eq_zero h1.1
    subst hl
    simp
    exact OMem.nil_
  · by_cases hc : c - k = 0
    · rw [if_pos hc]
      refine ⟨⟨by rw [List.length_drop, h1.1], fun x hx => h1.2.1 x (List.mem_of_mem_drop hx), fun hn => absurd hn (by omega)⟩, by omega, by omega, .inr ⟨b, off, rfl, h5, h6, fun j hj => by omega⟩⟩
    · rw [if_neg hc]
      have e : (some (⟨b, off, none⟩ : Addr)).map (·.add k) = some ⟨b, off + k, none⟩ := by rw [Option.map_some, add_plain]
      rw [e]
      refine ⟨h1.drop_ rfl k hk, by omega, by omega, .inr ⟨b, off + k, rfl, h5, h6, fun j hj => ?_⟩⟩
      rw [Nat.add_assoc]
      exact h7 (k + j) (by omega)
/-- A row that is owned. -/
theorem own_omem {e : TypeId} {v : Value} (hl : l.length = n) (hb : ∀ x ∈ l, ok x) (h : w.ownsRow base e 1 v n (l.map enc)) : ∃ A c, v = .slice A n c ∧ OMem enc ok base w A n c l := by
  obtain ⟨B, m, rfl, hm, h1, h2⟩ := own_emem (ok := ok) hl hb h
  refine ⟨B, m, rfl, hm, h1, h2, ?_⟩
  rcases h.2 with ⟨hv, rfl⟩ | ⟨g, cap, cur, hv, hbg, hg, hnc, hcm, hs, ht⟩
  · cases hv
    exact .inl ⟨rfl, rfl⟩
  · cases hv
    refine .inr ⟨g, 0, rfl, hbg, (Array.getElem?_eq_some_iff.1 hg).1, fun j hj => ⟨?_, by simp [World.frozen?, hg]⟩⟩
    rw [Nat.zero_add, cell_of_row w g j cur _ (0, 0) hg, Array.getElem?_eq_getElem (by omega)]
    rfl
end

section
variable {P : Program} (w : World) {α : Type} (enc : α → Value) (ok : α → Prop)
theorem tape_setCells (b : Nat) : ∀ (vs : List Value) (o : Nat) (w : World), (w.setCells b o vs).tape = w.tape
  | [], _, _ => rfl
  | v :: r, o, w => by rw [World.setCells, tape_setCells b r]; rfl
theorem omem_nonews {A : Option Addr} {m : Nat} {news : List α} (hr : EMem enc ok w A m news) (h : A = none) : m = 0 ∧ news = [] := by
  have hm : m = 0 := by
    rcases Nat.eq_zero_or_pos m with h0 | h0
    · exact h0
    · obtain ⟨b, off, h', _⟩ := hr.2.2 h0
      rw [h] at h'; cases h'
  exact ⟨hm, List.eq_nil_of_length_eq_zero (by rw [hr.1, hm])⟩
/-- APPEND OF A SLICE THAT READS ONTO SUCH A SLICE; where what comes of it lies: in its block, or in a new one. -/
theorem run_append_omem2 (h1c : ∀ x, (enc x).oneCell' = true) (base : Nat) (t ty e : TypeId) (i : TypeInfo) (z : Value) (bytes : Nat) (ht : P.underlying t = some (.slice e)) (hi : P.info? e = some i) (hz : i.zero = some z)
    (hsize : i.size = 1) (hby : i.bytes = bytes) (hzs : z.cells.size = 1)
    (A0 : Option Addr) (n c0 : Nat) (xs : List α) (ho : OMem enc ok base w A0 n c0 xs) (A : Option Addr) (m c : Nat) (news : List α) (hr : EMem enc ok w A m news)
    (h63 : n + m ≤ maxLen) (hbytes : (n + m) * bytes ≤ 140737488355328) (hbase : base ≤ w.heap.size) :
    ∃ A' c' w', (Builtin.append_ #[t, t] ty #[.slice A0 n c0, .slice A m c]).run P w = .ok (.slice A' (n + m) c') w' ∧ OMem enc ok base w' A' (n + m) c' (xs ++ news) ∧ w.grownBy w' (A0.map (·.block)) ∧ ∀ k, A'.map (·.block) = some k → A0.map (·.block) = some k ∨ w.heap.size ≤ k := by
  have hok : ∀ x ∈ xs ++ news, ok x := fun x hx => by
    rcases List.mem_append.1 hx with h | h
    · exact ho.1.2.1 x h
    · exact hr.2.1 x h
  have hlen : (xs ++ news).length = n + m := by rw [List.length_append, ho.1.1, hr.1]
  obtain ⟨h1, h2, h3, h4⟩ := ho
  rcases h4 with ⟨rfl, rfl⟩ | ⟨b, off, rfl, h5, h6, h7⟩
  · obtain rfl : n = 0 := by omega
    have hx : xs = [] := List.eq_nil_of_length_eq_zero h1.1
    subst hx
    obtain ⟨v', w', hrun, hw, hg⟩ := run_append_emem (P := P) w enc ok h1c w.heap.size t ty e i z bytes ht hi hz hsize hby hzs (.slice none 0 0) 0 [] (World.ownsRow_nil w w.heap.size e 1) A m c news hr h63 hbytes (Nat.le_refl _)
    obtain ⟨A', c', rfl, hm⟩ := own_omem (ok := ok) (l := [] ++ news) hlen hok hw
    refine ⟨A', c', w', hrun, ⟨hm.1, hm.2.1, hm.2.2.1, ?_⟩, by simpa [Value.ownBlock] using hg, fun k hk => .inr ?_⟩
    · rcases hm.2.2.2 with h | ⟨b', off', e1, e2, e3⟩
      · exact .inl h
      · exact .inr ⟨b', off', e1, by omega, e3⟩
    · rcases hm.2.2.2 with ⟨rfl, _⟩ | ⟨b', off', rfl, e2, e3⟩
      · cases hk
      · cases hk; exact e2
  · rcases A with _ | ad
    · obtain ⟨rfl, rfl⟩ := omem_nonews w enc ok hr rfl
      refine ⟨_, _, w, ?_, ⟨by simpa using h1, by simpa using h2, h3, .inr ⟨b, off, rfl, h5, h6, h7⟩⟩, World.grownBy.refl w _, fun k hk => .inl hk⟩
      simp [Builtin.append_, run_underlying ht, sizeOf, typeInfo, hi, Builtin.lenOf, Builtin.firstCells, h2, storeCells]
    · have hcells : ∀ j u, (news.map enc)[j]? = some u → w.cell? (ad.add j) = some u := by
        intro j u hu
        rcases Nat.eq_zero_or_pos m with h0 | h0
        · subst h0
          have hn : news = [] := List.eq_nil_of_length_eq_zero hr.1
          subst hn
          simp at hu
        · obtain ⟨b', off', h', _, hc⟩ := hr.2.2 h0
          cases h'
          rw [List.getElem?_map, Option.map_eq_some_iff] at hu
          obtain ⟨x, hx, rfl⟩ := hu
          rw [add_plain]
          exact hc j x hx
      have hl : (news.map enc).length = m * i.size := by rw [List.length_map, hr.1, hsize, Nat.mul_one]
      have h1n : ∀ u ∈ news.map enc, u.oneCell' = true := fun u hu => by obtain ⟨x, _, rfl⟩ := List.mem_map.1 hu; exact h1c x
      have old : ∀ j x, xs[j]? = some x → w.cell? ⟨b, off + j, none⟩ = some (enc x) := fun j x hx => by
        have h0 : 0 < n := by have := (List.getElem?_eq_some_iff.1 hx).1; rw [h1.1] at this; omega
        obtain ⟨b', off', h', _, hc⟩ := h1.2.2 h0
        cases h'
        exact hc j x hx
      by_cases hroom : n + m ≤ c0
      · have hsome : ∀ j, j < (news.map enc).length → (w.cell? ⟨b, off + n * i.size + j, none⟩).isSome = true ∧ w.frozen? ⟨b, off + n * i.size + j, none⟩ = false := fun j hj => by
          rw [List.length_map, hr.1] at hj
          rw [hsize, Nat.mul_one, Nat.add_assoc]
          exact h7 (n + j) (by omega)
        have hrun := run_append_room_cells (P := P) w t ty e i ht hi b off n c0 ad m c (news.map enc) hl hcells h1n hroom (fun j hj => (hsome j hj).1) (fun j hj => (hsome j hj).2)
        have hkept := World.keptBut_setCells b (may := fun p => p.block = b) (news.map enc) (off + n * i.size) w (fun _ _ => rfl)
        have hin := World.cell?_setCells_in b (news.map enc) (off + n * i.size) w (fun j hj => (hsome j hj).1)
        have hsz : w.heap.size ≤ (w.setCells b (off + n * i.size) (news.map enc)).heap.size := hkept.size
        refine ⟨_, _, _, hrun, ⟨⟨hlen, hok, fun _ => ⟨b, off, rfl, by omega, fun j u hu => ?_⟩⟩, hroom, h3, .inr ⟨b, off, rfl, h5, by omega, fun j hj => ⟨?_, ?_⟩⟩⟩, ⟨World.os_setCells _ _ _ _, ?_, World.output_setCells _ _ _ _, hsz, fun k hk hne => World.heap_setCells_other w b _ _ hk (fun e => hne (by rw [e]; rfl))⟩, fun k hk => .inl hk⟩
        · by_cases hj : j < n
          · rw [World.cell?_setCells_out b (news.map enc) _ w ⟨b, off + j, none⟩ (fun _ _ => .inl (by simp [hsize]; omega))]
            rw [List.getElem?_append_left (by rw [h1.1]; omega)] at hu
            exact old j u hu
          · rw [List.getElem?_append_right (by rw [h1.1]; omega), h1.1] at hu
            have hlt : j - n < (news.map enc).length := by have := (List.getElem?_eq_some_iff.1 hu).1; rw [List.length_map]; omega
            have := hin (j - n) hlt
            rw [show off + n * i.size + (j - n) = off + j from by rw [hsize]; omega] at this
            rw [this]
            have hx := (List.getElem?_eq_some_iff.1 hu).2
            simp [hx]
        · by_cases hj2 : n ≤ j ∧ j < n + m
          · have hlt : j - n < (news.map enc).length := by rw [List.length_map, hr.1]; omega
            have := hin (j - n) hlt
            rw [show off + n * i.size + (j - n) = off + j from by rw [hsize]; omega] at this
            rw [this]; rfl
          · rw [World.cell?_setCells_out b (news.map enc) _ w ⟨b, off + j, none⟩ (fun _ _ => by simp [hsize, hr.1]; omega)]
            exact (h7 j hj).1
        · rw [World.frozen?_setCells]
          exact (h7 j hj).2
        · exact tape_setCells b _ _ w
      · have holds : ∀ j u, (xs.map enc)[j]? = some u → w.cell? ((⟨b, off, none⟩ : Addr).add j) = some u := fun j u hu => by
          rw [List.getElem?_map, Option.map_eq_some_iff] at hu
          obtain ⟨x, hx, rfl⟩ := hu
          rw [add_plain]
          exact old j x hx
        obtain ⟨v', w', hrun, hw, hg⟩ := run_append_arg_grows (P := P) w t ty e i z 1 bytes ht hi hz hsize hby hzs (by omega) ⟨b, off, none⟩ n c0 (xs.map enc) (by rw [List.length_map, h1.1, Nat.mul_one]) holds ad m c (news.map enc) (by rw [List.length_map, hr.1, Nat.mul_one]) hcells (by omega) h63 hbytes
        rw [← List.map_append] at hw
        obtain ⟨A', c', rfl, hm⟩ := own_omem (ok := ok) (l := xs ++ news) hlen hok hw
        refine ⟨A', c', w', hrun, ⟨hm.1, hm.2.1, hm.2.2.1, ?_⟩, ⟨hg.os, hg.tape, hg.output, hg.size, fun k hk _ => hg.block k hk (by simp)⟩, fun k hk => .inr ?_⟩
        · rcases hm.2.2.2 with h | ⟨b', off', e1, e2, e3⟩
          · exact .inl h
          · exact .inr ⟨b', off', e1, by omega, e3⟩
        · rcases hm.2.2.2 with ⟨rfl, _⟩ | ⟨b', off', rfl, e2, e3⟩
          · cases hk
          · cases hk; exact e2
/-- APPEND OF A SLICE THAT READS ONTO SUCH A SLICE. -/
theorem run_append_omem (h1c : ∀ x, (enc x).oneCell' = true) (base : Nat) (t ty e : TypeId) (i : TypeInfo) (z : Value) (bytes : Nat) (ht : P.underlying t = some (.slice e)) (hi : P.info? e = some i) (hz : i.zero = some z)
    (hsize : i.size = 1) (hby : i.bytes = bytes) (hzs : z.cells.size = 1)
    (A0 : Option Addr) (n c0 : Nat) (xs : List α) (ho : OMem enc ok base w A0 n c0 xs) (A : Option Addr) (m c : Nat) (news : List α) (hr : EMem enc ok w A m news)
    (h63 : n + m ≤ maxLen) (hbytes : (n + m) * bytes ≤ 140737488355328) (hbase : base ≤ w.heap.size) :
    ∃ A' c' w', (Builtin.append_ #[t, t] ty #[.slice A0 n c0, .slice A m c]).run P w = .ok (.slice A' (n + m) c') w' ∧ OMem enc ok base w' A' (n + m) c' (xs ++ news) ∧ w.grownBy w' (A0.map (·.block)) := by
  obtain ⟨A', c', w', h1, h2, h3, _⟩ := run_append_omem2 (P := P) w enc ok h1c base t ty e i z bytes ht hi hz hsize hby hzs A0 n c0 xs ho A m c news hr h63 hbytes hbase
  exact ⟨A', c', w', h1, h2, h3⟩
theorem wp_append_omem {o : Oper} {a : Act} {K : Act → World → Prop} {Q : Exit → Act → World → Prop} (s x : Operand) (t : TypeId)
    (ho : o.op = .call { callee := .builtin .append, args := #[s, x], argTypes := #[t, t] })
    (h1c : ∀ x, (enc x).oneCell' = true) (base : Nat) (e : TypeId) (i : TypeInfo) (z : Value) (bytes : Nat) (ht : P.underlying t = some (.slice e)) (hi : P.info? e = some i) (hz : i.zero = some z)
    (hsize : i.size = 1) (hby : i.bytes = bytes) (hzs : z.cells.size = 1)
    (A0 : Option Addr) (n c0 : Nat) (xs : List α) (hs : a.eval s = .slice A0 n c0) (hown : OMem enc ok base w A0 n c0 xs) (A : Option Addr) (m c : Nat) (news : List α) (hx : a.eval x = .slice A m c) (hr : EMem enc ok w A m news)
    (h63 : n + m ≤ maxLen) (hbytes : (n + m) * bytes ≤ 140737488355328) (hbase : base ≤ w.heap.size)
    (h : ∀ A' c' w', OMem enc ok base w' A' (n + m) c' (xs ++ news) → w.grownBy w' (A0.map (·.block)) → K (a.put o.dst (.slice A' (n + m) c')) w') : o.wp P a w K Q := by
  obtain ⟨A', c', w', hrun, h2, h3⟩ := run_append_omem (P := P) w enc ok h1c base t o.type e i z bytes ht hi hz hsize hby hzs A0 n c0 xs hown A m c news hr h63 hbytes hbase
  unfold Oper.wp execOp
  simp only [ho, resolve, invoke, builtin, Sem.run_bind, Sem.run_pure, Result.andThen_ok, List.map_toArray, List.map_cons, List.map_nil, hs, hx, hrun]
  exact h A' c' w' h2 h3
theorem wpList_append_omem {ops : Array Oper} {rest : List Oper} {o : Oper} {a : Act} {Q : Exit → Act → World → Prop} (hgd : o.guard = none) (s x : Operand) (t : TypeId)
    (ho : o.op = .call { callee := .builtin .append, args := #[s, x], argTypes := #[t, t] })
    (h1c : ∀ x, (enc x).oneCell' = true) (base : Nat) (e : TypeId) (i : TypeInfo) (z : Value) (bytes : Nat) (ht : P.underlying t = some (.slice e)) (hi : P.info? e = some i) (hz : i.zero = some z)
    (hsize : i.size = 1) (hby : i.bytes = bytes) (hzs : z.cells.size = 1)
    (A0 : Option Addr) (n c0 : Nat) (xs : List α) (hs : a.eval s = .slice A0 n c0) (hown : OMem enc ok base w A0 n c0 xs) (A : Option Addr) (m c : Nat) (news : List α) (hx : a.eval x = .slice A m c) (hr : EMem enc ok w A m news)
    (h63 : n + m ≤ maxLen) (hbytes : (n + m) * bytes ≤ 140737488355328) (hbase : base ≤ w.heap.size)
    (h : ∀ A' c' w', OMem enc ok base w' A' (n + m) c' (xs ++ news) → w.grownBy w' (A0.map (·.block)) → wpList P ops Q rest (a.put o.dst (.slice A' (n + m) c')) w') : wpList P ops Q (o :: rest) a w :=
  wpList_plain hgd fun _ hK => wp_append_omem w enc ok s x t ho h1c base e i z bytes ht hi hz hsize hby hzs A0 n c0 xs hs hown A m c news hx hr h63 hbytes hbase fun A' c' w' h2 h3 => hK _ _ (h A' c' w' h2 h3)
theorem step_append_omem {ops : Array Oper} {o : Oper} {a : Act} {K : Act → World → Prop} {Q : Exit → Act → World → Prop} {E : Prop} (hgd : o.guard = none) (s x : Operand) (t : TypeId)
    (ho : o.op = .call { callee := .builtin .append, args := #[s, x], argTypes := #[t, t] })
    (h1c : ∀ x, (enc x).oneCell' = true) (base : Nat) (e : TypeId) (i : TypeInfo) (z : Value) (bytes : Nat) (ht : P.underlying t = some (.slice e)) (hi : P.info? e = some i) (hz : i.zero = some z)
    (hsize : i.size = 1) (hby : i.bytes = bytes) (hzs : z.cells.size = 1)
    (A0 : Option Addr) (n c0 : Nat) (xs : List α) (hs : a.eval s = .slice A0 n c0) (hown : OMem enc ok base w A0 n c0 xs) (A : Option Addr) (m c : Nat) (news : List α) (hx : a.eval x = .slice A m c) (hr : EMem enc ok w A m news)
    (h63 : n + m ≤ maxLen) (hbytes : (n + m) * bytes ≤ 140737488355328) (hbase : base ≤ w.heap.size)
    (h : ∀ A' c' w', OMem enc ok base w' A' (n + m) c' (xs ++ news) → w.grownBy w' (A0.map (·.block)) → K (a.put o.dst (.slice A' (n + m) c')) w') :
    if Region.wanted o (yielded ops a.tmps) = true then Oper.wp P o a w K Q else E := by
  have hw : Region.wanted o (yielded ops a.tmps) = true := by simp [Region.wanted, hgd]
  rw [if_pos hw]
  exact wp_append_omem w enc ok s x t ho h1c base e i z bytes ht hi hz hsize hby hzs A0 n c0 xs hs hown A m c news hx hr h63 hbytes hbase h
theorem wp_append_omem2 {o : Oper} {a : Act} {K : Act → World → Prop} {Q : Exit → Act → World → Prop} (s x : Operand) (t : TypeId)
    (ho : o.op = .call { callee := .builtin .append, args := #[s, x], argTypes := #[t, t] })
    (h1c : ∀ x, (enc x).oneCell' = true) (base : Nat) (e : TypeId) (i : TypeInfo) (z : Value) (bytes : Nat) (ht : P.underlying t = some (.slice e)) (hi : P.info? e = some i) (hz : i.zero = some z)
    (hsize : i.size = 1) (hby : i.bytes = bytes) (hzs : z.cells.size = 1)
    (A0 : Option Addr) (n c0 : Nat) (xs : List α) (hs : a.eval s = .slice A0 n c0) (hown : OMem enc ok base w A0 n c0 xs) (A : Option Addr) (m c : Nat) (news : List α) (hx : a.eval x = .slice A m c) (hr : EMem enc ok w A m news)
    (h63 : n + m ≤ maxLen) (hbytes : (n + m) * bytes ≤ 140737488355328) (hbase : base ≤ w.heap.size)
    (h : ∀ A' c' w', OMem enc ok base w' A' (n + m) c' (xs ++ news) → w.grownBy w' (A0.map (·.block)) → (∀ k, A'.map (·.block) = some k → A0.map (·.block) = some k ∨ w.heap.size ≤ k) → K (a.put o.dst (.slice A' (n + m) c')) w') : o.wp P a w K Q := by
  obtain ⟨A', c', w', hrun, h2, h3, h4⟩ := run_append_omem2 (P := P) w enc ok h1c base t o.type e i z bytes ht hi hz hsize hby hzs A0 n c0 xs hown A m c news hr h63 hbytes hbase
  unfold Oper.wp execOp
  simp only [ho, resolve, invoke, builtin, Sem.run_bind, Sem.run_pure, Result.andThen_ok, List.map_toArray, List.map_cons, List.map_nil, hs, hx, hrun]
  exact h A' c' w' h2 h3 h4
theorem wpList_append_omem2 {ops : Array Oper} {rest : List Oper} {o : Oper} {a : Act} {Q : Exit → Act → World → Prop} (hgd : o.guard = none) (s x : Operand) (t : TypeId)
    (ho : o.op = .call { callee := .builtin .append, args := #[s, x], argTypes := #[t, t] })
    (h1c : ∀ x, (enc x).oneCell' = true) (base : Nat) (e : TypeId) (i : TypeInfo) (z : Value) (bytes : Nat) (ht : P.underlying t = some (.slice e)) (hi : P.info? e = some i) (hz : i.zero = some z)
    (hsize : i.size = 1) (hby : i.bytes = bytes) (hzs : z.cells.size = 1)
    (A0 : Option Addr) (n c0 : Nat) (xs : List α) (hs : a.eval s = .slice A0 n c0) (hown : OMem enc ok base w A0 n c0 xs) (A : Option Addr) (m c : Nat) (news : List α) (hx : a.eval x = .slice A m c) (hr : EMem enc ok w A m news)
    (h63 : n + m ≤ maxLen) (hbytes : (n + m) * bytes ≤ 140737488355328) (hbase : base ≤ w.heap.size)
    (h : ∀ A' c' w', OMem enc ok base w' A' (n + m) c' (xs ++ news) → w.grownBy w' (A0.map (·.block)) → (∀ k, A'.map (·.block) = some k → A0.map (·.block) = some k ∨ w.heap.size ≤ k) → wpList P ops Q rest (a.put o.dst (.slice A' (n + m) c')) w') : wpList P ops Q (o :: rest) a w :=
  wpList_plain hgd fun _ hK => wp_append_omem2 w enc ok s x t ho h1c base e i z bytes ht hi hz hsize hby hzs A0 n c0 xs hs hown A m c news hx hr h63 hbytes hbase fun A' c' w' h2 h3 h4 => hK _ _ (h A' c' w' h2 h3 h4)
/-- .. whose guard says yes. -/
theorem wpList_append_omemW {ops : Array Oper} {rest : List Oper} {o : Oper} {a : Act} {Q : Exit → Act → World → Prop} (hwd : Region.wanted o (yielded ops a.tmps) = true) (s x : Operand) (t : TypeId)
    (ho : o.op = .call { callee := .builtin .append, args := #[s, x], argTypes := #[t, t] })
    (h1c : ∀ x, (enc x).oneCell' = true) (base : Nat) (e : TypeId) (i : TypeInfo) (z : Value) (bytes : Nat) (ht : P.underlying t = some (.slice e)) (hi : P.info? e = some i) (hz : i.zero = some z)
    (hsize : i.size = 1) (hby : i.bytes = bytes) (hzs : z.cells.size = 1)
    (A0 : Option Addr) (n c0 : Nat) (xs : List α) (hs : a.eval s = .slice A0 n c0) (hown : OMem enc ok base w A0 n c0 xs) (A : Option Addr) (m c : Nat) (news : List α) (hx : a.eval x = .slice A m c) (hr : EMem enc ok w A m news)
    (h63 : n + m ≤ maxLen) (hbytes : (n + m) * bytes ≤ 140737488355328) (hbase : base ≤ w.heap.size)
    (h : ∀ A' c' w', OMem enc ok base w' A' (n + m) c' (xs ++ news) → w.grownBy w' (A0.map (·.block)) → (∀ k, A'.map (·.block) = some k → A0.map (·.block) = some k ∨ w.heap.size ≤ k) → wpList P ops Q rest (a.put o.dst (.slice A' (n + m) c')) w') : wpList P ops Q (o :: rest) a w :=
  BigFrame.wpList_want hwd fun _ hK => wp_append_omem2 w enc ok s x t ho h1c base e i z bytes ht hi hz hsize hby hzs A0 n c0 xs hs hown A m c news hx hr h63 hbytes hbase fun A' c' w' h2 h3 h4 => hK _ _ (h A' c' w' h2 h3 h4)
end
end Go.Proofs.Ytclhdpmlmbicjaa
