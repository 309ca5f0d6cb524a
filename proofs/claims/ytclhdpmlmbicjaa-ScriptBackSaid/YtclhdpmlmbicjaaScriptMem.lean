/-
  Picks in memory (two cells each): a row of the call's own, appended to; a parameter api.Pick, opened (along the lines of stage 12's text for picks).
-/
import Derived.Test.YtclhdpmlmbicjaaScriptMath
import Derived.Test.YtclhdpmlmbicjaaMem
import Derived.Test.YtclhdpmlmbicjaaOpenRow
import Derived.Test.YtclhdpmlmbicjaaOwn
import Derived.Test.YtclhdpmlmbicjaaBlk
import Derived.Deep.SlicePairs
import Derived.Deep.AppendLies
import Derived.OwnWalkIn
import Derived.Lib.SmallJoins
namespace Go.Proofs.Ytclhdpmlmbicjaa
open Go.ChangeShapes Go.WideShapes Go.ChangeAt Go.RowKit Go.Deep Go.Joins
set_option linter.unusedVariables false
set_option maxRecDepth 100000
namespace P13

theorem infoPick : (Try.prog.info? 23).map (fun i => (i.zero, i.size, i.bytes)) = some (some (.agg #[.int .i64 0, .int .i64 0]), 2, 16) := by kernel_rfl
theorem info_parts {t : TypeId} {a : Option Value × Nat × Nat} (h : (Try.prog.info? t).map (fun i => (i.zero, i.size, i.bytes)) = some a) : ∃ i, Try.prog.info? t = some i ∧ i.zero = a.1 ∧ i.size = a.2.1 ∧ i.bytes = a.2.2 := by
  rw [Option.map_eq_some_iff] at h
  obtain ⟨i, hi, rfl⟩ := h
  exact ⟨i, hi, rfl, rfl, rfl⟩
/-- It is nil, or lies in a block from B on. -/
def Late (B : Nat) (A : Option Addr) : Prop := ∀ k, A.map (·.block) = some k → B ≤ k
theorem Late.none {B : Nat} : Late B none := fun k h => by cases h
theorem Late.low {B C : Nat} {A : Option Addr} (h : Late B A) (hc : C ≤ B) : Late C A := fun k hk => Nat.le_trans hc (h k hk)

section
variable {w w' : World} {A : Option Addr} {n : Nat} {l : List Pk}
theorem mem_kept {row : Option Nat} (h : Mem w A n l) (hg : w.grownBy w' row) (hr : 0 < n → ∀ k, A.map (·.block) = some k → row ≠ some k) : Mem w' A n l :=
  ⟨h.1, h.2.1, fun hn => by
    obtain ⟨b, off, rfl, hb, hc⟩ := h.2.2 hn
    refine ⟨b, off, rfl, Nat.lt_of_lt_of_le hb hg.size, fun j x hj => ?_⟩
    exact (World.cell?_of_block (a := ⟨b, off + j, none⟩) (hg.block b hb (fun e => hr hn b rfl e.symm))).trans (hc j x hj)⟩
end
/-! A row of picks of the call's own. -/
abbrev KOwn (w : World) (base : Nat) (v : Value) (l : List Pk) : Prop := w.ownsRow base 23 2 v l.length (flat l)
theorem own_mem {w : World} {base : Nat} {v : Value} {l : List Pk} (h : KOwn w base v l) (hb : ∀ x ∈ l, Inb x.1 ∧ Inb x.2) : ∃ A c, v = .slice A l.length c ∧ Mem w A l.length l ∧ l.length ≤ c ∧ c ≤ 9223372036854775807 ∧ Late base A := by
  rcases h.2 with ⟨rfl, h0⟩ | ⟨g, cap, cur, rfl, hbg, hg, hnc, hcm, hs, ht⟩
  · have hl : l = [] := by
      cases l with
      | nil => rfl
      | cons x r => cases h0
    subst hl
    exact ⟨none, 0, rfl, Mem.nil_, Nat.le_refl _, by omega, Late.none⟩
  · refine ⟨_, _, rfl, ⟨rfl, hb, fun _ => ⟨g, 0, rfl, (Array.getElem?_eq_some_iff.1 hg).1, fun j u hu => ?_⟩⟩, hnc, by unfold maxLen at hcm; omega, fun k hk => by simp at hk; omega⟩
    rw [Nat.zero_add, cell_of_row w g j cur _ (0, 0) hg]
    rw [← ht, List.getElem?_take] at hu
    split at hu
    · simpa using hu
    · cases hu
section
variable {w : World} {base : Nat} {v : Value} {l : List Pk} {A : Option Addr} {m c : Nat} {news : List Pk}
theorem run_append_picks (h : KOwn w base v l) (hr : Mem w A m news) (hl : l.length + m ≤ 1000000) (hbase : base ≤ w.heap.size) (ty : TypeId) (c : Nat) :
    ∃ v' w', (Builtin.append_ #[29, 29] ty #[v, .slice A m c]).run Try.prog w = .ok v' w' ∧ KOwn w' base v' (l ++ news) ∧ w.grownBy w' v.ownBlock := by
  obtain ⟨i, hi, hz, hs, hb⟩ := info_parts infoPick
  unfold KOwn
  rw [List.length_append, hr.1, flat_append]
  rcases A with _ | ad
  · have hm : m = 0 := by
      rcases Nat.eq_zero_or_pos m with h0 | h0
      · exact h0
      · obtain ⟨b, off, h, _⟩ := hr.2.2 h0
        cases h
    subst hm
    have hn : news = [] := List.eq_nil_of_length_eq_zero hr.1
    subst hn
    exact ⟨v, w, run_append_of_nil w base 29 ty 23 i 2 Try.underlying29 hi v _ _ h c, by simpa [flat] using h, World.grownBy.refl w _⟩
  · have hcells : ∀ j u, (flat news)[j]? = some u → w.cell? (ad.add j) = some u := by
      intro j u hu
      rcases Nat.eq_zero_or_pos m with h0 | h0
      · subst h0
        have hn : news = [] := List.eq_nil_of_length_eq_zero hr.1
        subst hn
        simp [flat] at hu
      · obtain ⟨b, off, h, _, hc⟩ := hr.2.2 h0
        injection h with h
        subst h
        rw [add_plain]
        exact hc j u hu
    obtain ⟨v', w', hrun, h2, h3, _⟩ := run_append_own (P := Try.prog) w base 29 ty 23 i (.agg #[.int .i64 0, .int .i64 0]) 2 16 Try.underlying29 hi hz hs hb rfl (by decide) v _ _ h ad m c (flat news) (by rw [flat_len, hr.1]) hcells (flat_one news) (by unfold maxLen; omega) (by omega) hbase
    exact ⟨v', w', hrun, h2, h3⟩
theorem wp_append_picks {o : Oper} {a : Act} {K : Act → World → Prop} {Q : Exit → Act → World → Prop} (s x : Operand)
    (ho : o.op = .call { callee := .builtin .append, args := #[s, x], argTypes := #[29, 29] }) (hs : a.eval s = v) (hx : a.eval x = .slice A m c)
    (h : KOwn w base v l) (hr : Mem w A m news) (hl : l.length + m ≤ 1000000) (hbase : base ≤ w.heap.size)
    (hK : ∀ v' w', KOwn w' base v' (l ++ news) → w.grownBy w' v.ownBlock → K (a.put o.dst v') w') : o.wp Try.prog a w K Q := by
  obtain ⟨v', w', h1, h2, h3⟩ := run_append_picks h hr hl hbase o.type c
  unfold Oper.wp execOp
  simp only [ho, resolve, invoke, builtin, Sem.run_bind, Sem.run_pure, Result.andThen_ok, List.map_toArray, List.map_cons, List.map_nil, hs, hx, h1]
  exact hK v' w' h2 h3
theorem wpList_append_picks {ops : Array Oper} {rest : List Oper} {o : Oper} {a : Act} {Q : Exit → Act → World → Prop} (hgd : o.guard = none) (s x : Operand)
    (ho : o.op = .call { callee := .builtin .append, args := #[s, x], argTypes := #[29, 29] }) (hs : a.eval s = v) (hx : a.eval x = .slice A m c)
    (h : KOwn w base v l) (hr : Mem w A m news) (hl : l.length + m ≤ 1000000) (hbase : base ≤ w.heap.size)
    (hK : ∀ v' w', KOwn w' base v' (l ++ news) → w.grownBy w' v.ownBlock → wpList Try.prog ops Q rest (a.put o.dst v') w') : wpList Try.prog ops Q (o :: rest) a w :=
  wpList_plain hgd fun _ hK' => wp_append_picks s x ho hs hx h hr hl hbase fun v' w' h1 h2 => hK' _ _ (hK v' w' h1 h2)
theorem step_append_picks {ops : Array Oper} {o : Oper} {a : Act} {K : Act → World → Prop} {Q : Exit → Act → World → Prop} {E : Prop} (hgd : o.guard = none) (s x : Operand)
    (ho : o.op = .call { callee := .builtin .append, args := #[s, x], argTypes := #[29, 29] }) (hs : a.eval s = v) (hx : a.eval x = .slice A m c)
    (h : KOwn w base v l) (hr : Mem w A m news) (hl : l.length + m ≤ 1000000) (hbase : base ≤ w.heap.size)
    (hK : ∀ v' w', KOwn w' base v' (l ++ news) → w.grownBy w' v.ownBlock → K (a.put o.dst v') w') :
    if Region.wanted o (yielded ops a.tmps) = true then Oper.wp Try.prog o a w K Q else E := by
  have hw : Region.wanted o (yielded ops a.tmps) = true := by simp [Region.wanted, hgd]
  rw [if_pos hw]
  exact wp_append_picks s x ho hs hx h hr hl hbase hK
end
theorem KOwn.nil (w : World) (base : Nat) : KOwn w base (.slice none 0 0) [] := World.ownsRow_nil w base _ 2
theorem KOwn.kept {w w' : World} {base : Nat} {v : Value} {l : List Pk} {row : Option Nat} (h : KOwn w base v l) (hg : w.grownBy w' row) (hr : v.ownBlock = none ∨ v.ownBlock ≠ row) : KOwn w' base v l := World.ownsRow.kept h hg hr
theorem KOwn.gr {w w' : World} {base : Nat} {v : Value} {l : List Pk} (h : KOwn w base v l) (g : Gr w w') : KOwn w' base v l :=
  h.kept (row := none) ⟨g.os, g.tape, g.output, g.size, fun k hk _ => g.block k hk⟩ (by cases v.ownBlock <;> simp)
theorem KOwn.late {w : World} {base : Nat} {v : Value} {l : List Pk} (h : KOwn w base v l) {k : Nat} (hk : v.ownBlock = some k) : base ≤ k := by
  rcases h.2 with ⟨rfl, _⟩ | ⟨g, cap, cur, rfl, hb, _⟩
  · cases hk
  · simp only [Value.ownBlock] at hk
    cases hk
    exact hb


theorem pick_row {w : World} {g : Nat} {p : Pk} {t : TypeId} (h : Blk w g #[.int .i64 p.1, .int .i64 p.2] t) (hp : Inb p.1 ∧ Inb p.2) : Mem w (some ⟨g, 0, none⟩) 1 [p] :=
  ⟨rfl, fun x hx => by rw [List.mem_singleton] at hx; subst hx; exact hp, fun _ => ⟨g, 0, rfl, h.lt, fun j u hu => by
    match j, hu with
    | 0, hu => simp [flat] at hu; subst hu; exact (h.at_ (k := 0) rfl).1
    | 1, hu => simp [flat] at hu; subst hu; exact (h.at_ (k := 1) rfl).1⟩⟩
theorem KOwn.low {w : World} {base b2 : Nat} {v : Value} {l : List Pk} (h : KOwn w base v l) (hb : b2 ≤ base) : KOwn w b2 v l := by
  refine ⟨h.1, ?_⟩
  rcases h.2 with h1 | ⟨g, cap, cur, hv, hbg, h2⟩
  · exact .inl h1
  · exact .inr ⟨g, cap, cur, hv, Nat.le_trans hb hbg, h2⟩
theorem kown_empty (w : World) : KOwn (w.alloc (.cells #[] 23)) w.heap.size (.slice (some ⟨w.heap.size, 0, none⟩) 0 0) [] :=
  ⟨rfl, .inr ⟨w.heap.size, 0, #[], rfl, Nat.le_refl _, heap_alloc_new w _, Nat.le_refl _, Nat.zero_le _, rfl, rfl⟩⟩
/-- An append in a round's plain region. -/
theorem wpListIn_append_picks {F : Fence} {f : Nat} {w : World} {base : Nat} {v : Value} {l : List Pk} {A : Option Addr} {m c : Nat} {news : List Pk} {ops : Array Oper} {rest : List Oper} {o : Oper} {a : Act} {Q : Exit → Act → World → Prop} (hgd : o.guard = none) (s x : Operand)
    (ho : o.op = .call { callee := .builtin .append, args := #[s, x], argTypes := #[29, 29] }) (hs : a.eval s = v) (hx : a.eval x = .slice A m c)
    (h : KOwn w base v l) (hr : Mem w A m news) (hl : l.length + m ≤ 1000000) (hbase : base ≤ w.heap.size)
    (hK : ∀ v' w', KOwn w' base v' (l ++ news) → w.grownBy w' v.ownBlock → wpListIn F f Try.prog ops Q rest (a.put o.dst v') w') : wpListIn F f Try.prog ops Q (o :: rest) a w := by
  refine wpListIn_plain hgd fun K hK' => ?_
  obtain ⟨v', w', h1, h2, h3⟩ := run_append_picks h hr hl hbase o.type c
  unfold Oper.wpIn
  refine ⟨?_, ?_⟩
  · simp [Oper.about, ho, resolve, Target.leads, Sem.run_pure]
  · rw [Oper.semAt_plain F _ _ (by rw [ho]; intro c hc'; cases hc')]
    simp [execOp, ho, resolve, invoke, builtin, hs, hx, h1, Result.andThen]
    exact hK' _ _ (hK v' w' h2 h3)
theorem open_pick {H : Type} {enc : TypeId × Value → H} {W : World} {base : Nat} {sp : Nat → Bool} {v : Value} {d : DataW H} {ps : List MemPlace}
    (hval : Value.okWide Try.prog W .any base 23 v) (h : DataW.Trod enc Try.prog W 0 sp true 23 v d ps) :
    ∃ p : Pk, v = .agg #[.int .i64 p.1, .int .i64 p.2] ∧ Inb p.1 ∧ Inb p.2 := by
  obtain ⟨v0, v1, y0, y1, k, rfl, rfl, rfl, t0, t1⟩ := open_agg2 Try.underlying23 (by kernel_rfl) (by kernel_rfl) hval h
  obtain ⟨n, hn, -, hw⟩ := DataW.trod_int Try.underlying3 t0
  obtain ⟨s, hs, -, hz⟩ := DataW.trod_int Try.underlying3 t1
  cases hn
  cases hs
  exact ⟨(n, s), rfl, wfb hw, wfb hz⟩
end P13
end Go.Proofs.Ytclhdpmlmbicjaa
