/-
  A row of spots of the call's own, each with a line of its own: kept, appended to, in a drawn region and within a round of a range over a function.
-/
import Derived.Test.YtmkkeknimpjfoaaRootIter
namespace Go.Proofs.Ytmkkeknimpjfoaa
open Go.ChangeShapes Go.WideShapes Go.ChangeAt Go.RowKit Go.Shelf
set_option linter.unusedVariables false
set_option linter.unusedSimpArgs false

theorem imem_kept {W W' : World} {row : Option Nat} {A : Option Addr} {n : Nat} {l : List Int} (h : IMem W A n l) (hg : W.grownBy W' row) (hr : ∀ k, A.map (·.block) = some k → k < W.heap.size → row ≠ some k) : IMem W' A n l :=
  ⟨h.1, h.2.1, fun hn => by
    obtain ⟨b, off, rfl, hb, hc⟩ := h.2.2 hn
    refine ⟨b, off, rfl, Nat.lt_of_lt_of_le hb hg.size, fun j x hj => ?_⟩
    exact (World.cell?_of_block (a := ⟨b, off + j, none⟩) (hg.block b hb (fun e => hr b rfl hb e.symm))).trans (hc j x hj)⟩
/-- A row of spots of the call's own, in blocks from base on, their lines too, each in a block that is not the row's. -/
structure SOwn (W : World) (base : Nat) (v : Value) (R : List SV) : Prop where
  row : SRow W base v R.length R
  ok : ∀ x ∈ R, x.ok W
  off : ∀ x ∈ R, ∀ k, x.A.map (·.block) = some k → base ≤ k ∧ k < W.heap.size ∧ v.ownBlock ≠ some k
theorem SOwn.nil (W : World) (base : Nat) : SOwn W base (.slice none 0 0) [] := ⟨World.ownsRow_nil W base _ 3, by simp, by simp⟩
theorem SOwn.block {W : World} {base : Nat} {v : Value} {R : List SV} (h : SOwn W base v R) {g : Nat} (hg : v.ownBlock = some g) : base ≤ g ∧ ∃ cs, W.heap[g]? = some (.cells cs 46 (0, 0)) := by
  rcases h.row.2 with ⟨rfl, _⟩ | ⟨g', cap, cur, rfl, hb, hc, _⟩
  · cases hg
  · simp only [Value.ownBlock] at hg
    cases hg
    exact ⟨hb, cur, hc⟩
theorem SOwn.kept {W W' : World} {base : Nat} {v : Value} {R : List SV} {row : Option Nat} (h : SOwn W base v R) (hg : W.grownBy W' row)
    (hr : ∀ r, row = some r → r < base ∨ W.heap.size ≤ r ∨ ∃ o : Obj, W.heap[r]? = some o ∧ o.isCells = false) : SOwn W' base v R := by
  have key : ∀ k, base ≤ k → k < W.heap.size → (∃ v, W.cell? ⟨k, 0, none⟩ = some v) ∨ True → True := fun _ _ _ _ => trivial
  refine ⟨h.row.kept hg ?_, fun x hx => ?_, fun x hx k hk => ?_⟩
  · cases hv : v.ownBlock with
    | none => exact .inl rfl
    | some g =>
      right
      intro e
      obtain ⟨h1, cs, h2⟩ := h.block hv
      rcases hr g e.symm with h3 | h3 | ⟨o, h3, h4⟩
      · omega
      · have := (Array.getElem?_eq_some_iff.1 h2).1; omega
      · rw [h2] at h3; cases h3; cases h4
  · obtain ⟨a1, a2, a3, a4⟩ := h.ok x hx
    refine ⟨a1, a2, ?_, a4⟩
    rcases Nat.eq_zero_or_pos x.n with h0 | h0
    · exact ⟨a3.1, a3.2.1, fun hn => absurd hn (by omega)⟩
    · obtain ⟨b, off, he, hb, hc⟩ := a3.2.2 h0
      refine imem_kept a3 hg fun k hk hkl e => ?_
      have hbk : b = k := by rw [he] at hk; simpa using hk
      subst hbk
      rcases hr b e with h3 | h3 | ⟨o, h3, h4⟩
      · have := (h.off x hx b hk).1; omega
      · omega
      · have hl : 0 < x.line.length := by have := a3.1; omega
        have hcell := hc 0 x.line[0] (List.getElem?_eq_getElem hl)
        obtain ⟨o', ho', hc'⟩ := cells_of_cell hcell
        rw [show W.heap[b]? = some o' from ho'] at h3
        cases h3
        rw [h4] at hc'
        cases hc'
  · obtain ⟨h1, h2, h3⟩ := h.off x hx k hk
    exact ⟨h1, Nat.lt_of_lt_of_le h2 hg.size, h3⟩
theorem SOwn.gr {W W' : World} {base : Nat} {v : Value} {R : List SV} (h : SOwn W base v R) (g : Gr W W') : SOwn W' base v R :=
  h.kept (row := none) ⟨g.os, g.tape, g.output, g.size, fun k hk _ => g.block k hk⟩ (fun r e => by cases e)
theorem SOwn.st {W : World} {base : Nat} {v : Value} {R : List SV} (h : SOwn W base v R) {b : Nat} (hb : b < base) (u : Value) : SOwn (W.setCell ⟨b, 0, none⟩ u) base v R :=
  h.kept (grownBy_setCell' W b u) (fun r e => by cases e; exact .inl hb)
theorem SOwn.low {W : World} {base b2 : Nat} {v : Value} {R : List SV} (h : SOwn W base v R) (hb : b2 ≤ base) : SOwn W b2 v R := by
  refine ⟨⟨h.row.1, ?_⟩, h.ok, fun x hx k hk => ?_⟩
  · rcases h.row.2 with h1 | ⟨g, cap, cur, e, h1, h2⟩
    · exact .inl h1
    · exact .inr ⟨g, cap, cur, e, Nat.le_trans hb h1, h2⟩
  · obtain ⟨h1, h2⟩ := h.off x hx k hk
    exact ⟨Nat.le_trans hb h1, h2⟩
/-- It reads. -/
theorem SOwn.mem {W : World} {base : Nat} {v : Value} {R : List SV} (h : SOwn W base v R) : ∃ B m, v = .slice B R.length m ∧ SMem W B R.length R ∧ R.length ≤ m ∧ m ≤ 9223372036854775807 := own_smem h.row h.ok
/-- One more. -/
theorem SOwn.step {W W' : World} {base : Nat} {v : Value} {R : List SV} {y : SV} {g cap : Nat} (h : SOwn W base v R) (hy : y.ok W) (hyo : ∀ k, y.A.map (·.block) = some k → base ≤ k ∧ k < W.heap.size ∧ v.ownBlock ≠ some k)
    (hrow : SRow W' base (.slice (some ⟨g, 0, none⟩) (R.length + 1) cap) (R.length + 1) (R ++ [y])) (hg : W.grownBy W' v.ownBlock) (hat : v.ownBlock = some g ∨ g = W.heap.size) :
    SOwn W' base (.slice (some ⟨g, 0, none⟩) (R.length + 1) cap) (R ++ [y]) := by
  have all : ∀ x ∈ R ++ [y], x.ok W ∧ ∀ k, x.A.map (·.block) = some k → base ≤ k ∧ k < W.heap.size ∧ v.ownBlock ≠ some k := by
    intro x hx
    rcases List.mem_append.1 hx with hx | hx
    · exact ⟨h.ok x hx, h.off x hx⟩
    · rw [List.mem_singleton] at hx; subst hx; exact ⟨hy, hyo⟩
  refine ⟨by rw [List.length_append]; exact hrow, fun x hx => ?_, fun x hx k hk => ?_⟩
  · obtain ⟨⟨a1, a2, a3, a4⟩, ho⟩ := all x hx
    exact ⟨a1, a2, imem_kept a3 hg fun k hk _ => (ho k hk).2.2, a4⟩
  · obtain ⟨h1, h2, h3⟩ := (all x hx).2 k hk
    refine ⟨h1, Nat.lt_of_lt_of_le h2 hg.size, fun e => ?_⟩
    simp only [Value.ownBlock, Option.some.injEq] at e
    rcases hat with e' | e'
    · exact h3 (by rw [e', e])
    · omega
/-- What is known behind an append of a spot. -/
def Appended (w : World) (base : Nat) (v : Value) (R : List SV) (y : SV) (g cap : Nat) (w' : World) : Prop :=
  SRow w' base (.slice (some ⟨g, 0, none⟩) (R.length + 1) cap) (R.length + 1) (R ++ [y]) ∧ w.grownBy w' v.ownBlock ∧ (v.ownBlock = some g ∨ g = w.heap.size) ∧
    (w.grownBy w' none ∨ ∃ g0 cap0, v = .slice (some ⟨g0, 0, none⟩) R.length cap0 ∧ R.length + 1 ≤ cap0)
theorem run_append_spot {w : World} {base : Nat} {v : Value} {R : List SV} {y : SV} {b c : Nat} {t : TypeId} (h : SRow w base v R.length R) (hb : Blk w b #[.int .i64 y.addr, .int .i64 y.cnt, .slice y.A y.n y.c] t) (hl : R.length ≤ 1000000) (hbase : base ≤ w.heap.size) (ty : TypeId) :
    ∃ g cap w', (Builtin.append_ #[22, 22] ty #[v, .slice (some ⟨b, 0, none⟩) 1 c]).run Try.prog w = .ok (.slice (some ⟨g, 0, none⟩) (R.length + 1) cap) w' ∧ Appended w base v R y g cap w' := by
  obtain ⟨i0, hi0, hz0, hz1, hz2⟩ := info_parts infoSpot
  obtain ⟨g, cap, w', h1, h2, h3, h4, h5⟩ := run_append_fine (P := Try.prog) w 22 ty base 46 i0 (.agg #[.int .i64 0, .int .i64 0, .slice none 0 0]) 3 40 Try.underlying22 hi0 hz0 hz1 hz2 rfl (by decide) v R.length (flatS R) h ⟨b, 0, none⟩ 1 c
    (flatS [y]) rfl (fun j u hu => by
      rw [add_plain, Nat.zero_add]
      match j, hu with
      | 0, hu => simp [flatS] at hu; subst hu; exact (hb.at_ (k := 0) rfl).1
      | 1, hu => simp [flatS] at hu; subst hu; exact (hb.at_ (k := 1) rfl).1
      | 2, hu => simp [flatS] at hu; subst hu; exact (hb.at_ (k := 2) rfl).1) (fun u hu => by simp [flatS] at hu; rcases hu with rfl | rfl | rfl <;> rfl) (by decide) (by unfold maxLen; omega) (by omega) hbase
  rw [← flatS_app] at h2
  exact ⟨g, cap, w', h1, h2, h3, h4, h5⟩
theorem wp_append_spot {w : World} {base : Nat} {v : Value} {R : List SV} {y : SV} {b c : Nat} {t : TypeId} {o : Oper} {a : Act} {K : Act → World → Prop} {Q : Exit → Act → World → Prop} (s x : Operand)
    (ho : o.op = .call { callee := .builtin .append, args := #[s, x], argTypes := #[22, 22] }) (hs : a.eval s = v) (hx : a.eval x = .slice (some ⟨b, 0, none⟩) 1 c)
    (h : SRow w base v R.length R) (hb : Blk w b #[.int .i64 y.addr, .int .i64 y.cnt, .slice y.A y.n y.c] t) (hl : R.length ≤ 1000000) (hbase : base ≤ w.heap.size)
    (hK : ∀ g cap w', Appended w base v R y g cap w' → K (a.put o.dst (.slice (some ⟨g, 0, none⟩) (R.length + 1) cap)) w') : o.wp Try.prog a w K Q := by
  obtain ⟨g, cap, w', h1, h2⟩ := run_append_spot h hb hl hbase o.type (c := c)
  unfold Oper.wp execOp
  simp only [ho, resolve, invoke, builtin, Sem.run_bind, Sem.run_pure, Result.andThen_ok, List.map_toArray, List.map_cons, List.map_nil, hs, hx, h1]
  exact hK g cap w' h2
theorem step_append_spot {w : World} {base : Nat} {v : Value} {R : List SV} {y : SV} {b c : Nat} {t : TypeId} {ops : Array Oper} {o : Oper} {a : Act} {K : Act → World → Prop} {Q : Exit → Act → World → Prop} {E : Prop} (hgd : o.guard = none) (s x : Operand)
    (ho : o.op = .call { callee := .builtin .append, args := #[s, x], argTypes := #[22, 22] }) (hs : a.eval s = v) (hx : a.eval x = .slice (some ⟨b, 0, none⟩) 1 c)
    (h : SRow w base v R.length R) (hb : Blk w b #[.int .i64 y.addr, .int .i64 y.cnt, .slice y.A y.n y.c] t) (hl : R.length ≤ 1000000) (hbase : base ≤ w.heap.size)
    (hK : ∀ g cap w', Appended w base v R y g cap w' → K (a.put o.dst (.slice (some ⟨g, 0, none⟩) (R.length + 1) cap)) w') :
    if Region.wanted o (yielded ops a.tmps) = true then Oper.wp Try.prog o a w K Q else E := by
  have hw : Region.wanted o (yielded ops a.tmps) = true := by simp [Region.wanted, hgd]
  rw [if_pos hw]
  exact wp_append_spot s x ho hs hx h hb hl hbase hK
theorem wpList_append_spot {w : World} {base : Nat} {v : Value} {R : List SV} {y : SV} {b c : Nat} {t : TypeId} {ops : Array Oper} {rest : List Oper} {o : Oper} {a : Act} {Q : Exit → Act → World → Prop} (hgd : o.guard = none) (s x : Operand)
    (ho : o.op = .call { callee := .builtin .append, args := #[s, x], argTypes := #[22, 22] }) (hs : a.eval s = v) (hx : a.eval x = .slice (some ⟨b, 0, none⟩) 1 c)
    (h : SRow w base v R.length R) (hb : Blk w b #[.int .i64 y.addr, .int .i64 y.cnt, .slice y.A y.n y.c] t) (hl : R.length ≤ 1000000) (hbase : base ≤ w.heap.size)
    (hK : ∀ g cap w', Appended w base v R y g cap w' → wpList Try.prog ops Q rest (a.put o.dst (.slice (some ⟨g, 0, none⟩) (R.length + 1) cap)) w') : wpList Try.prog ops Q (o :: rest) a w :=
  wpList_plain hgd fun _ hK' => wp_append_spot s x ho hs hx h hb hl hbase fun g cap w' h1 => hK' _ _ (hK g cap w' h1)
/-- The same within a round. -/
theorem stepIn_append_spot {l m : Nat} {w : World} {base : Nat} {v : Value} {R : List SV} {y : SV} {b c : Nat} {t : TypeId} {ops : Array Oper} {o : Oper} {a : Act} {K : Act → World → Prop} {Q : Exit → Act → World → Prop} {E : Prop} (hgd : o.guard = none) (s x : Operand)
    (ho : o.op = .call { callee := .builtin .append, args := #[s, x], argTypes := #[22, 22] }) (hs : a.eval s = v) (hx : a.eval x = .slice (some ⟨b, 0, none⟩) 1 c)
    (h : SRow w base v R.length R) (hb : Blk w b #[.int .i64 y.addr, .int .i64 y.cnt, .slice y.A y.n y.c] t) (hl : R.length ≤ 1000000) (hbase : base ≤ w.heap.size)
    (hK : ∀ g cap w', Appended w base v R y g cap w' → K (a.put o.dst (.slice (some ⟨g, 0, none⟩) (R.length + 1) cap)) w') :
    if Region.wanted o (yielded ops a.tmps) = true then Oper.wpIn (Fence.wide.inRound l) m Try.prog o a w K Q else E := by
  have hw : Region.wanted o (yielded ops a.tmps) = true := by simp [Region.wanted, hgd]
  rw [if_pos hw]
  obtain ⟨g, cap, w', h1, h2⟩ := run_append_spot h hb hl hbase o.type (c := c)
  unfold Oper.wpIn
  refine ⟨fun _ _ => trivial, ?_⟩
  rw [Oper.semAt_plain _ _ _ (by rw [ho]; intro c hc'; cases hc')]
  simp [execOp, ho, resolve, invoke, builtin, hs, hx, h1, Result.andThen]
  exact hK g cap w' h2
/-- An append keeps each block of three cells, where the row is nil or holds something. -/
theorem Appended.three {w w' : World} {base : Nat} {v : Value} {R : List SV} {y : SV} {g cap : Nat} (h : Appended w base v R y g cap w') (hr : SRow w base v R.length R) (hn : R = [] → v = .slice none 0 0) {k : Nat} {cs : Array Value} {t : TypeId} (hk : Blk w k cs t) (h3 : cs.size = 3) : Blk w' k cs t := by
  rcases h.2.2.2 with hg | ⟨g0, cap0, rfl, hcap⟩
  · exact hk.gb hg (by simp)
  · refine hk.gb h.2.1 fun e => ?_
    simp only [Value.ownBlock, Option.some.injEq] at e
    subst e
    rcases hr.2 with ⟨hv, _⟩ | ⟨g', cap', cur, hv, _, hc, _, _, hsz, _⟩
    · cases hv
    · cases hv
      rw [show w.heap[g0]? = some (.cells cs t (0, 0)) from hk] at hc
      cases hc
      have hR : R ≠ [] := fun e => by have := hn e; cases this
      have : 0 < R.length := List.length_pos_iff.2 hR
      omega
end Go.Proofs.Ytmkkeknimpjfoaa
