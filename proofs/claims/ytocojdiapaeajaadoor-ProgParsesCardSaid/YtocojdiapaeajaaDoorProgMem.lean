/-
  Programs in memory: acts as pairs of numbers, rows of programs; a row of acts and a row of programs of the call's own, appended to; parameters []api.Act and [][]api.Act, opened.
-/
import Derived.Test.YtocojdiapaeajaaDoorProgMath
import Derived.Test.YtocojdiapaeajaaDoorMem
import Derived.Test.YtocojdiapaeajaaDoorOpenRow
import Derived.Test.YtocojdiapaeajaaDoorOwn
import Derived.Test.YtocojdiapaeajaaDoorBlk
import Derived.Deep.SlicePairs
import Derived.Deep.AppendLies
import Derived.OwnWalkIn
namespace Go.Proofs.YtocojdiapaeajaaDoor
open Go.ChangeShapes Go.WideShapes Go.ChangeAt Go.RowKit Go.Deep
set_option linter.unusedVariables false
set_option maxRecDepth 100000
namespace P12

theorem cellsOfAct : Tryd.prog.cellsOf 38 = 2 := by kernel_rfl
theorem cellsOfInt : Tryd.prog.cellsOf 3 = 1 := by kernel_rfl
theorem cellsOfActs : Tryd.prog.cellsOf 32 = 1 := by kernel_rfl
theorem infoAct : (Tryd.prog.info? 38).map (fun i => (i.zero, i.size, i.bytes)) = some (some (.agg #[.int .i64 0, .int .i64 0]), 2, 16) := by kernel_rfl
theorem infoActs : (Tryd.prog.info? 32).map (fun i => (i.zero, i.size, i.bytes)) = some (some (.slice none 0 0), 1, 24) := by kernel_rfl
theorem infoStr : (Tryd.prog.info? 9).map (fun i => (i.zero, i.size, i.bytes)) = some (some (.string ⟨#[]⟩), 1, 16) := by kernel_rfl
theorem info_parts {t : TypeId} {a : Option Value × Nat × Nat} (h : (Tryd.prog.info? t).map (fun i => (i.zero, i.size, i.bytes)) = some a) : ∃ i, Tryd.prog.info? t = some i ∧ i.zero = a.1 ∧ i.size = a.2.1 ∧ i.bytes = a.2.2 := by
  rw [Option.map_eq_some_iff] at h
  obtain ⟨i, hi, rfl⟩ := h
  exact ⟨i, hi, rfl, rfl, rfl⟩
theorem flat_inv : ∀ (l : List (Int × Int)) (j : Nat) (u : Value), (flat l)[j]? = some u → ∃ i x, l[i]? = some x ∧ ((j = i * 2 ∧ u = .int .i64 x.1) ∨ (j = i * 2 + 1 ∧ u = .int .i64 x.2))
  | [], j, u, h => by simp [flat] at h
  | x :: r, 0, u, h => by simp [flat] at h; exact ⟨0, x, rfl, .inl ⟨rfl, h.symm⟩⟩
  | x :: r, 1, u, h => by simp [flat] at h; exact ⟨0, x, rfl, .inr ⟨rfl, h.symm⟩⟩
  | x :: r, j + 2, u, h => by
    obtain ⟨i, y, hy, h⟩ := flat_inv r j u (by simpa [flat] using h)
    refine ⟨i + 1, y, by simpa using hy, ?_⟩
    rcases h with ⟨rfl, rfl⟩ | ⟨rfl, rfl⟩
    · exact .inl ⟨by omega, rfl⟩
    · exact .inr ⟨by omega, rfl⟩

/-- It is nil, or lies in a block from B on. -/
def Late (B : Nat) (A : Option Addr) : Prop := ∀ k, A.map (·.block) = some k → B ≤ k
theorem Late.none {B : Nat} : Late B none := fun k h => by cases h
theorem Late.low {B C : Nat} {A : Option Addr} (h : Late B A) (hc : C ≤ B) : Late C A := fun k hk => Nat.le_trans hc (h k hk)

section
variable {w w' : World} {A : Option Addr} {n : Nat} {l : List Ac}
theorem mem_kept {row : Option Nat} (h : Mem w A n l) (hg : w.grownBy w' row) (hr : 0 < n → ∀ k, A.map (·.block) = some k → row ≠ some k) : Mem w' A n l :=
  ⟨h.1, h.2.1, fun hn => by
    obtain ⟨b, off, rfl, hb, hc⟩ := h.2.2 hn
    refine ⟨b, off, rfl, Nat.lt_of_lt_of_le hb hg.size, fun j x hj => ?_⟩
    exact (World.cell?_of_block (a := ⟨b, off + j, none⟩) (hg.block b hb (fun e => hr hn b rfl e.symm))).trans (hc j x hj)⟩
theorem mem_drop (h : Mem w A n l) {b off : Nat} (hA : A = some ⟨b, off, none⟩) (k : Nat) (hk : k ≤ n) : Mem w (some ⟨b, off + k * 2, none⟩) (n - k) (l.drop k) :=
  ⟨by rw [List.length_drop, h.1], fun x hx => h.2.1 x (List.mem_of_mem_drop hx), fun hn => by
    obtain ⟨b', off', e, hb, hc⟩ := h.2.2 (by omega)
    rw [hA] at e
    cases e
    refine ⟨b, off + k * 2, rfl, hb, fun j u hu => ?_⟩
    obtain ⟨i, x, hx, hu⟩ := flat_inv _ j u hu
    rw [List.getElem?_drop] at hx
    rcases hu with ⟨rfl, rfl⟩ | ⟨rfl, rfl⟩
    · rw [show off + k * 2 + i * 2 = off + (k + i) * 2 from by omega]
      exact hc _ _ (flat_get0 l (k + i) x hx)
    · rw [show off + k * 2 + (i * 2 + 1) = off + ((k + i) * 2 + 1) from by omega]
      exact hc _ _ (flat_get1 l (k + i) x hx)⟩
/-- Cut at its front, as the model's slice has it. -/
theorem mem_cut (h : Mem w A n l) (k c : Nat) (hk : k ≤ n) (hc : n ≤ c) : Mem w (if c = k then A else A.map (·.add (k * 2))) (n - k) (l.drop k) := by
  by_cases hn : n - k = 0
  · rw [hn]
    have : l.drop k = [] := List.eq_nil_of_length_eq_zero (by rw [List.length_drop, h.1, hn])
    rw [this]
    exact ⟨rfl, by simp, fun h => absurd h (by omega)⟩
  · obtain ⟨b, off, rfl, _, _⟩ := h.2.2 (by omega)
    rw [if_neg (by omega), Option.map_some, add_plain]
    exact mem_drop h rfl k hk
theorem mem_blk {g : Nat} {vs : Array Value} {t : TypeId} (h : Blk w g vs t) (hv : vs.toList = flat l) (hb : ∀ x ∈ l, Inb x.1 ∧ Inb x.2) : Mem w (some ⟨g, 0, none⟩) l.length l :=
  ⟨rfl, hb, fun _ => ⟨g, 0, rfl, h.lt, fun j u hu => by
    rw [Nat.zero_add]
    refine (h.at_ ?_).1
    rw [← hv] at hu
    simpa using hu⟩⟩
end

/-! A row of acts of the call's own. -/
abbrev AOwn (w : World) (base : Nat) (v : Value) (l : List Ac) : Prop := w.ownsRow base 38 2 v l.length (flat l)
theorem own_mem {w : World} {base : Nat} {v : Value} {l : List Ac} (h : AOwn w base v l) (hb : ∀ x ∈ l, Inb x.1 ∧ Inb x.2) : ∃ A c, v = .slice A l.length c ∧ Mem w A l.length l ∧ l.length ≤ c ∧ c ≤ 9223372036854775807 ∧ Late base A := by
  rcases h.2 with ⟨rfl, h0⟩ | ⟨g, cap, cur, rfl, hbg, hg, hnc, hcm, hs, ht⟩
  · have hl : l = [] := by
      cases l with
      | nil => rfl
      | cons x r => cases h0
    subst hl
    exact ⟨none, 0, rfl, Mem.nil_, Nat.le_refl _, by omega, Late.none⟩
  · refine ⟨_, _, rfl, ⟨rfl, hb, fun _ => ⟨g, 0, rfl, (Array.getElem?_eq_some_iff.1 hg).1, fun j u hu => ?_⟩⟩, hnc, by unfold maxLen at hcm; omega, fun k hk => by simp at hk; omega⟩
    rw [Nat.zero_add, cell_of_row w g j cur _ (0, 0) hg]
    rw [← ht, List.getElem?_take] at hu
    split at hu
    · simpa using hu
    · cases hu
section
variable {w : World} {base : Nat} {v : Value} {l : List Ac} {A : Option Addr} {m c : Nat} {news : List Ac}
theorem run_append_acts (h : AOwn w base v l) (hr : Mem w A m news) (hl : l.length + m ≤ 1000000) (hbase : base ≤ w.heap.size) (ty : TypeId) (c : Nat) :
    ∃ v' w', (Builtin.append_ #[32, 32] ty #[v, .slice A m c]).run Tryd.prog w = .ok v' w' ∧ AOwn w' base v' (l ++ news) ∧ w.grownBy w' v.ownBlock := by
  obtain ⟨i, hi, hz, hs, hb⟩ := info_parts infoAct
  unfold AOwn
  rw [List.length_append, hr.1, flat_append]
  rcases A with _ | ad
  · have hm : m = 0 := by
      rcases Nat.eq_zero_or_pos m with h0 | h0
      · exact h0
      · obtain ⟨b, off, h, _⟩ := hr.2.2 h0
        cases h
    subst hm
    have hn : news = [] := List.eq_nil_of_length_eq_zero hr.1
    subst hn
    exact ⟨v, w, run_append_of_nil w base 32 ty 38 i 2 Tryd.underlying32 hi v _ _ h c, by simpa [flat] using h, World.grownBy.refl w _⟩
  · have hcells : ∀ j u, (flat news)[j]? = some u → w.cell? (ad.add j) = some u := by
      intro j u hu
      rcases Nat.eq_zero_or_pos m with h0 | h0
      · subst h0
        have hn : news = [] := List.eq_nil_of_length_eq_zero hr.1
        subst hn
        simp [flat] at hu
      · obtain ⟨b, off, h, _, hc⟩ := hr.2.2 h0
        injection h with h
        subst h
        rw [add_plain]
        exact hc j u hu
    obtain ⟨v', w', hrun, h2, h3, _⟩ := run_append_own (P := Tryd.prog) w base 32 ty 38 i (.agg #[.int .i64 0, .int .i64 0]) 2 16 Tryd.underlying32 hi hz hs hb rfl (by decide) v _ _ h ad m c (flat news) (by rw [flat_len, hr.1]) hcells (flat_one news) (by unfold maxLen; omega) (by omega) hbase
    exact ⟨v', w', hrun, h2, h3⟩
theorem wp_append_acts {o : Oper} {a : Act} {K : Act → World → Prop} {Q : Exit → Act → World → Prop} (s x : Operand)
    (ho : o.op = .call { callee := .builtin .append, args := #[s, x], argTypes := #[32, 32] }) (hs : a.eval s = v) (hx : a.eval x = .slice A m c)
    (h : AOwn w base v l) (hr : Mem w A m news) (hl : l.length + m ≤ 1000000) (hbase : base ≤ w.heap.size)
    (hK : ∀ v' w', AOwn w' base v' (l ++ news) → w.grownBy w' v.ownBlock → K (a.put o.dst v') w') : o.wp Tryd.prog a w K Q := by
  obtain ⟨v', w', h1, h2, h3⟩ := run_append_acts h hr hl hbase o.type c
  unfold Oper.wp execOp
  simp only [ho, resolve, invoke, builtin, Sem.run_bind, Sem.run_pure, Result.andThen_ok, List.map_toArray, List.map_cons, List.map_nil, hs, hx, h1]
  exact hK v' w' h2 h3
theorem wpList_append_acts {ops : Array Oper} {rest : List Oper} {o : Oper} {a : Act} {Q : Exit → Act → World → Prop} (hgd : o.guard = none) (s x : Operand)
    (ho : o.op = .call { callee := .builtin .append, args := #[s, x], argTypes := #[32, 32] }) (hs : a.eval s = v) (hx : a.eval x = .slice A m c)
    (h : AOwn w base v l) (hr : Mem w A m news) (hl : l.length + m ≤ 1000000) (hbase : base ≤ w.heap.size)
    (hK : ∀ v' w', AOwn w' base v' (l ++ news) → w.grownBy w' v.ownBlock → wpList Tryd.prog ops Q rest (a.put o.dst v') w') : wpList Tryd.prog ops Q (o :: rest) a w :=
  wpList_plain hgd fun _ hK' => wp_append_acts s x ho hs hx h hr hl hbase fun v' w' h1 h2 => hK' _ _ (hK v' w' h1 h2)
theorem step_append_acts {ops : Array Oper} {o : Oper} {a : Act} {K : Act → World → Prop} {Q : Exit → Act → World → Prop} {E : Prop} (hgd : o.guard = none) (s x : Operand)
    (ho : o.op = .call { callee := .builtin .append, args := #[s, x], argTypes := #[32, 32] }) (hs : a.eval s = v) (hx : a.eval x = .slice A m c)
    (h : AOwn w base v l) (hr : Mem w A m news) (hl : l.length + m ≤ 1000000) (hbase : base ≤ w.heap.size)
    (hK : ∀ v' w', AOwn w' base v' (l ++ news) → w.grownBy w' v.ownBlock → K (a.put o.dst v') w') :
    if Region.wanted o (yielded ops a.tmps) = true then Oper.wp Tryd.prog o a w K Q else E := by
  have hw : Region.wanted o (yielded ops a.tmps) = true := by simp [Region.wanted, hgd]
  rw [if_pos hw]
  exact wp_append_acts s x ho hs hx h hr hl hbase hK
end
theorem AOwn.nil (w : World) (base : Nat) : AOwn w base (.slice none 0 0) [] := World.ownsRow_nil w base _ 2
theorem AOwn.kept {w w' : World} {base : Nat} {v : Value} {l : List Ac} {row : Option Nat} (h : AOwn w base v l) (hg : w.grownBy w' row) (hr : v.ownBlock = none ∨ v.ownBlock ≠ row) : AOwn w' base v l := World.ownsRow.kept h hg hr
theorem AOwn.gr {w w' : World} {base : Nat} {v : Value} {l : List Ac} (h : AOwn w base v l) (g : Gr w w') : AOwn w' base v l :=
  h.kept (row := none) ⟨g.os, g.tape, g.output, g.size, fun k hk _ => g.block k hk⟩ (by cases v.ownBlock <;> simp)
theorem AOwn.late {w : World} {base : Nat} {v : Value} {l : List Ac} (h : AOwn w base v l) {k : Nat} (hk : v.ownBlock = some k) : base ≤ k := by
  rcases h.2 with ⟨rfl, _⟩ | ⟨g, cap, cur, rfl, hb, _⟩
  · cases hk
  · simp only [Value.ownBlock] at hk
    cases hk
    exact hb

/-! Rows of programs. -/
/-- A program where it lies. -/
structure PV where
  A : Option Addr
  n : Nat
  c : Nat
  l : List Ac
instance : Inhabited PV := ⟨⟨none, 0, 0, []⟩⟩
def PV.enc (x : PV) : Value := .slice x.A x.n x.c
def PV.ok (w : World) (x : PV) : Prop := Mem w x.A x.n x.l ∧ x.n ≤ x.c ∧ x.c ≤ 9223372036854775807
theorem PV.ok.gr {w w' : World} {x : PV} (h : x.ok w) (g : Gr w w') : x.ok w' := ⟨h.1.gr g, h.2⟩
theorem PV.ok.lt {w : World} {x : PV} (h : x.ok w) : x.n ≤ 9223372036854775807 := by have := h.2; omega
/-- What they read as. -/
def pl (R : List PV) : List (List Ac) := R.map PV.l
/-- The slice at A, of n programs, reads as R. -/
def PMem (w : World) (A : Option Addr) (n : Nat) (R : List PV) : Prop := EMem PV.enc (fun _ => True) w A n R ∧ ∀ x ∈ R, x.ok w
section
variable {w w' : World} {A : Option Addr} {n : Nat} {R : List PV}
theorem PMem.len (h : PMem w A n R) : R.length = n := h.1.1
theorem PMem.gr (h : PMem w A n R) (g : Gr w w') : PMem w' A n R := ⟨h.1.gr g, fun x hx => (h.2 x hx).gr g⟩
theorem PMem.at_ {k : Nat} (h : PMem w A n R) (hk : k < n) : ∃ b off x, A = some ⟨b, off, none⟩ ∧ b < w.heap.size ∧ R[k]? = some x ∧ x.ok w ∧ w.cell? ⟨b, off + k, none⟩ = some (.slice x.A x.n x.c) := by
  obtain ⟨b, off, x, h1, h2, h3, _, h4⟩ := h.1.at_ hk
  exact ⟨b, off, x, h1, h2, h3, h.2 x (List.mem_of_getElem? h3), h4⟩
theorem PMem.take_ (h : PMem w A n R) (k : Nat) (hk : k ≤ n) : PMem w A k (R.take k) := ⟨h.1.take_ k hk, fun x hx => h.2 x (List.mem_of_mem_take hx)⟩
theorem PMem.nil_ : PMem w A 0 [] := ⟨EMem.nil_, by simp⟩
end
/-- A row of programs of the call's own, in blocks from base on; their acts lie in blocks from lo on that are not the row's. -/
structure POwn (w : World) (base lo : Nat) (A : Option Addr) (n c : Nat) (R : List PV) : Prop where
  row : OMem PV.enc (fun _ => True) base w A n c R
  ok : ∀ x ∈ R, x.ok w
  off : ∀ x ∈ R, 0 < x.n → ∀ k, x.A.map (·.block) = some k → lo ≤ k ∧ k < w.heap.size ∧ A.map (·.block) ≠ some k
section
variable {w w' : World} {base lo : Nat} {A : Option Addr} {n c : Nat} {R : List PV}
theorem POwn.nil : POwn w base lo none 0 0 [] := ⟨OMem.nil_, by simp, by simp⟩
theorem POwn.mem (h : POwn w base lo A n c R) : PMem w A n R := ⟨h.row.mem, h.ok⟩
theorem POwn.len (h : POwn w base lo A n c R) : R.length = n := h.row.1.1
theorem POwn.gr (h : POwn w base lo A n c R) (g : Gr w w') : POwn w' base lo A n c R :=
  ⟨h.row.gr g, fun x hx => (h.ok x hx).gr g, fun x hx h0 k hk => by
    obtain ⟨h1, h2, h3⟩ := h.off x hx h0 k hk
    exact ⟨h1, Nat.lt_of_lt_of_le h2 g.size, h3⟩⟩
theorem POwn.drN (h : POwn w base lo A n c R) (k : Nat) : POwn (w.drewN k) base lo A n c R := h.gr ((Gr.refl w).drN k)
/-- A store into a block below base and lo leaves it. -/
theorem POwn.st (h : POwn w base lo A n c R) {b : Nat} (hb : b < base) (hl : b < lo) (u : Value) : POwn (w.setCell ⟨b, 0, none⟩ u) base lo A n c R := by
  refine ⟨h.row.st (p := ⟨b, 0, none⟩) hb u, fun x hx => ?_, fun x hx h0 k hk => ?_⟩
  · obtain ⟨h1, h2⟩ := h.ok x hx
    refine ⟨⟨h1.1, h1.2.1, fun hn => ?_⟩, h2⟩
    obtain ⟨b', off, e, hb', hc⟩ := h1.2.2 hn
    have h3 := (h.off x hx hn b' (by rw [e]; rfl)).1
    refine ⟨b', off, e, by simpa using hb', fun j u' hu => ?_⟩
    rw [← hc j u' hu]
    exact World.cell?_of_block (a := ⟨b', off + j, none⟩) (Below.heap_setCell w ⟨b, 0, none⟩ u b' (by simp; omega))
  · have := h.off x hx h0 k hk
    exact ⟨this.1, by simpa using this.2.1, this.2.2⟩
theorem POwn.low {b2 l2 : Nat} (h : POwn w base lo A n c R) (hb : b2 ≤ base) (hl : l2 ≤ lo) : POwn w b2 l2 A n c R := by
  refine ⟨⟨h.row.1, h.row.2.1, h.row.2.2.1, ?_⟩, h.ok, fun x hx h0 k hk => ?_⟩
  · rcases h.row.2.2.2 with h1 | ⟨b, off, e, h1, h2⟩
    · exact .inl h1
    · exact .inr ⟨b, off, e, Nat.le_trans hb h1, h2⟩
  · have := h.off x hx h0 k hk
    exact ⟨Nat.le_trans hl this.1, this.2⟩
theorem POwn.late (h : POwn w base lo A n c R) : Late base A := fun k hk => by
  rcases h.row.2.2.2 with ⟨rfl, _⟩ | ⟨b, off, rfl, h1, h2⟩
  · cases hk
  · simp at hk; omega
/-- What is known behind an append of programs: where they lie, what was written. -/
def Grown (w : World) (base lo : Nat) (A : Option Addr) (n m : Nat) (R news : List PV) (A' : Option Addr) (c' : Nat) (w' : World) : Prop :=
  POwn w' base lo A' (n + m) c' (R ++ news) ∧ w.grownBy w' (A.map (·.block))
variable {B : Option Addr} {m d : Nat} {news : List PV}
theorem run_append_progs (h : POwn w base lo A n c R) (hr : PMem w B m news) (hoff : ∀ x ∈ news, 0 < x.n → ∀ k, x.A.map (·.block) = some k → lo ≤ k ∧ k < w.heap.size ∧ A.map (·.block) ≠ some k)
    (hl : n + m ≤ 1000000) (hbase : base ≤ w.heap.size) (ty : TypeId) (d : Nat) :
    ∃ A' c' w', (Builtin.append_ #[22, 22] ty #[.slice A n c, .slice B m d]).run Tryd.prog w = .ok (.slice A' (n + m) c') w' ∧ Grown w base lo A n m R news A' c' w' := by
  obtain ⟨i, hi, hz, hs, hb⟩ := info_parts infoActs
  obtain ⟨A', c', w', h1, h2, h3, h4⟩ := run_append_omem2 (P := Tryd.prog) w PV.enc (fun _ => True) (fun _ => rfl) base 22 ty 32 i (.slice none 0 0) 24 Tryd.underlying22 hi hz hs hb rfl A n c R h.row B m d news hr.1 (by unfold maxLen; omega) (by omega) hbase
  have all : ∀ x ∈ R ++ news, x.ok w ∧ (0 < x.n → ∀ k, x.A.map (·.block) = some k → lo ≤ k ∧ k < w.heap.size ∧ A.map (·.block) ≠ some k) := by
    intro x hx
    rcases List.mem_append.1 hx with hx | hx
    · exact ⟨h.ok x hx, h.off x hx⟩
    · exact ⟨hr.2 x hx, hoff x hx⟩
  refine ⟨A', c', w', h1, ⟨h2, fun x hx => ?_, fun x hx h0 k hk => ?_⟩, h3⟩
  · obtain ⟨⟨a1, a2⟩, ho⟩ := all x hx
    exact ⟨mem_kept a1 h3 fun h0 k hk => (ho h0 k hk).2.2, a2⟩
  · obtain ⟨e1, e2, e3⟩ := (all x hx).2 h0 k hk
    refine ⟨e1, Nat.lt_of_lt_of_le e2 h3.size, fun e => ?_⟩
    rcases h4 k e with e' | e'
    · exact e3 e'
    · omega
theorem wp_append_progs {o : Oper} {a : Act} {K : Act → World → Prop} {Q : Exit → Act → World → Prop} (s x : Operand)
    (ho : o.op = .call { callee := .builtin .append, args := #[s, x], argTypes := #[22, 22] }) (hs : a.eval s = .slice A n c) (hx : a.eval x = .slice B m d)
    (h : POwn w base lo A n c R) (hr : PMem w B m news) (hoff : ∀ x ∈ news, 0 < x.n → ∀ k, x.A.map (·.block) = some k → lo ≤ k ∧ k < w.heap.size ∧ A.map (·.block) ≠ some k)
    (hl : n + m ≤ 1000000) (hbase : base ≤ w.heap.size)
    (hK : ∀ A' c' w', Grown w base lo A n m R news A' c' w' → K (a.put o.dst (.slice A' (n + m) c')) w') : o.wp Tryd.prog a w K Q := by
  obtain ⟨A', c', w', h1, h2⟩ := run_append_progs h hr hoff hl hbase o.type d
  unfold Oper.wp execOp
  simp only [ho, resolve, invoke, builtin, Sem.run_bind, Sem.run_pure, Result.andThen_ok, List.map_toArray, List.map_cons, List.map_nil, hs, hx, h1]
  exact hK A' c' w' h2
theorem wpList_append_progs {ops : Array Oper} {rest : List Oper} {o : Oper} {a : Act} {Q : Exit → Act → World → Prop} (hgd : o.guard = none) (s x : Operand)
    (ho : o.op = .call { callee := .builtin .append, args := #[s, x], argTypes := #[22, 22] }) (hs : a.eval s = .slice A n c) (hx : a.eval x = .slice B m d)
    (h : POwn w base lo A n c R) (hr : PMem w B m news) (hoff : ∀ x ∈ news, 0 < x.n → ∀ k, x.A.map (·.block) = some k → lo ≤ k ∧ k < w.heap.size ∧ A.map (·.block) ≠ some k)
    (hl : n + m ≤ 1000000) (hbase : base ≤ w.heap.size)
    (hK : ∀ A' c' w', Grown w base lo A n m R news A' c' w' → wpList Tryd.prog ops Q rest (a.put o.dst (.slice A' (n + m) c')) w') : wpList Tryd.prog ops Q (o :: rest) a w :=
  wpList_plain hgd fun _ hK' => wp_append_progs s x ho hs hx h hr hoff hl hbase fun A' c' w' h1 => hK' _ _ (hK A' c' w' h1)
theorem step_append_progs {ops : Array Oper} {o : Oper} {a : Act} {K : Act → World → Prop} {Q : Exit → Act → World → Prop} {E : Prop} (hgd : o.guard = none) (s x : Operand)
    (ho : o.op = .call { callee := .builtin .append, args := #[s, x], argTypes := #[22, 22] }) (hs : a.eval s = .slice A n c) (hx : a.eval x = .slice B m d)
    (h : POwn w base lo A n c R) (hr : PMem w B m news) (hoff : ∀ x ∈ news, 0 < x.n → ∀ k, x.A.map (·.block) = some k → lo ≤ k ∧ k < w.heap.size ∧ A.map (·.block) ≠ some k)
    (hl : n + m ≤ 1000000) (hbase : base ≤ w.heap.size)
    (hK : ∀ A' c' w', Grown w base lo A n m R news A' c' w' → K (a.put o.dst (.slice A' (n + m) c')) w') :
    if Region.wanted o (yielded ops a.tmps) = true then Oper.wp Tryd.prog o a w K Q else E := by
  have hw : Region.wanted o (yielded ops a.tmps) = true := by simp [Region.wanted, hgd]
  rw [if_pos hw]
  exact wp_append_progs s x ho hs hx h hr hoff hl hbase hK
/-- The same within a round. -/
theorem stepIn_append_progs {l m0 : Nat} {ops : Array Oper} {o : Oper} {a : Act} {K : Act → World → Prop} {Q : Exit → Act → World → Prop} {E : Prop} (hgd : o.guard = none) (s x : Operand)
    (ho : o.op = .call { callee := .builtin .append, args := #[s, x], argTypes := #[22, 22] }) (hs : a.eval s = .slice A n c) (hx : a.eval x = .slice B m d)
    (h : POwn w base lo A n c R) (hr : PMem w B m news) (hoff : ∀ x ∈ news, 0 < x.n → ∀ k, x.A.map (·.block) = some k → lo ≤ k ∧ k < w.heap.size ∧ A.map (·.block) ≠ some k)
    (hl : n + m ≤ 1000000) (hbase : base ≤ w.heap.size)
    (hK : ∀ A' c' w', Grown w base lo A n m R news A' c' w' → K (a.put o.dst (.slice A' (n + m) c')) w') :
    if Region.wanted o (yielded ops a.tmps) = true then Oper.wpIn (Fence.wide.inRound l) m0 Tryd.prog o a w K Q else E := by
  have hw : Region.wanted o (yielded ops a.tmps) = true := by simp [Region.wanted, hgd]
  rw [if_pos hw]
  obtain ⟨A', c', w', h1, h2⟩ := run_append_progs h hr hoff hl hbase o.type d
  unfold Oper.wpIn
  refine ⟨fun _ _ => trivial, ?_⟩
  rw [Oper.semAt_plain _ _ _ (by rw [ho]; intro c hc'; cases hc')]
  simp [execOp, ho, resolve, invoke, builtin, hs, hx, h1, Result.andThen]
  exact hK A' c' w' h2
end
/-- One program as a row, as a composite literal builds it. -/
theorem pmem_one {w : World} {g : Nat} {x : PV} {t : TypeId} (h : Blk w g #[.slice x.A x.n x.c] t) (hx : x.ok w) : PMem w (some ⟨g, 0, none⟩) 1 [x] :=
  ⟨⟨rfl, by simp, fun _ => ⟨g, 0, rfl, h.lt, fun j y hj => by
    match j, hj with
    | 0, hj => simp at hj; subst hj; exact (h.at_ (k := 0) rfl).1⟩⟩, by simpa using hx⟩

section
variable {H : Type} {enc : TypeId × Value → H} {W : World}
theorem trod_acts {sp : Nat → Bool} {k : Nat} {cs : List Value} {y : DataW H × List MemPlace} (hf : DataW.trod enc Tryd.prog W 0 sp true k 32 cs = some y) :
    ∃ x : PV, cs = [x.enc] ∧ x.ok W := by
  rcases open_slice_pairs Tryd.underlying32 Tryd.underlying38 cellsOfAct rfl rfl cellsOfInt cellsOfInt hf with ⟨hcs, hx⟩ | ⟨a, len, cap, m, k, V0, V1, D0, D1, P0, P1, hcs, _, hl, hm, hmm, hx, hcell⟩
  · exact ⟨⟨none, 0, 0, []⟩, hcs, Mem.nil_, Nat.le_refl _, by show 0 ≤ _; omega⟩
  · unfold maxLen at hm
    have hlm : len ≤ m := by rw [hmm]; split <;> omega
    have each : ∀ i, i < len → ∃ q : Int × Int, W.cell? (a.add (i * 2)) = some (.int .i64 q.1) ∧ W.cell? (a.add (i * 2 + 1)) = some (.int .i64 q.2) ∧ Inb q.1 ∧ Inb q.2 := by
      intro i hi
      obtain ⟨c0, c1, t0, t1⟩ := hcell i (by omega)
      obtain ⟨x, e0, _, w0⟩ := DataW.trod_int Tryd.underlying3 t0
      obtain ⟨y, e1, _, w1⟩ := DataW.trod_int Tryd.underlying3 t1
      simp only [List.cons.injEq, and_true] at e0 e1
      rw [e0] at c0
      rw [e1] at c1
      exact ⟨(x, y), c0, c1, bounds_i64 w0, bounds_i64 w1⟩
    obtain ⟨q, hq⟩ := choose_lt each
    refine ⟨⟨some a, len, cap, (List.range len).map q⟩, hcs, ⟨by simp, ?_, ?_⟩, hl, by show cap ≤ _; omega⟩
    · intro x hx
      simp only [List.mem_map, List.mem_range] at hx
      obtain ⟨i, hi, rfl⟩ := hx
      exact (hq i hi).2.2
    · intro h0
      obtain ⟨b, off, spot⟩ := a
      have hspot : spot = none := by simpa [Addr.add] using World.cell?_spot (hq 0 h0).1
      subst hspot
      refine ⟨b, off, rfl, World.block_lt_of_cell? W _ (by simpa [Addr.add] using (hq 0 h0).1), fun j u hu => ?_⟩
      obtain ⟨i, x, hx, h⟩ := flat_inv _ j u hu
      have hi : i < len := by have := (List.getElem?_eq_some_iff.1 hx).1; simpa using this
      have hxq : x = q i := by simpa [hi] using hx.symm
      subst hxq
      rcases h with ⟨rfl, rfl⟩ | ⟨rfl, rfl⟩
      · have := (hq i hi).1; rwa [add_plain] at this
      · have := (hq i hi).2.1; rwa [add_plain] at this
/-- A parameter []api.Act. -/
theorem open_acts {base : Nat} {sp : Nat → Bool} {v : Value} {d : DataW H} {ps : List MemPlace}
    (hval : Value.okWide Tryd.prog W .any base 32 v) (h : DataW.Trod enc Tryd.prog W 0 sp true 32 v d ps) :
    ∃ x : PV, v = .slice x.A x.n x.c ∧ x.ok W := by
  obtain ⟨a0, len, cap, rfl⟩ := okWide_slice Tryd.underlying32 hval
  obtain ⟨fuel, hf⟩ := h
  obtain ⟨x, hx, ho⟩ := trod_acts hf
  simp [Value.cells, PV.enc] at hx
  obtain ⟨rfl, rfl, rfl⟩ := hx
  exact ⟨x, rfl, ho⟩
/-- A parameter [][]api.Act. -/
theorem open_acts2 {base : Nat} {sp : Nat → Bool} {v : Value} {d : DataW H} {ps : List MemPlace}
    (hval : Value.okWide Tryd.prog W .any base 22 v) (h : DataW.Trod enc Tryd.prog W 0 sp true 22 v d ps) :
    ∃ (A : Option Addr) (n c : Nat) (R : List PV), v = .slice A n c ∧ n ≤ c ∧ n ≤ 9223372036854775807 ∧ PMem W A n R := by
  obtain ⟨A, n, c, R, h1, h2, h3, h4⟩ := open_emem (en := PV.enc) (ok := fun x => x.ok W) Tryd.underlying22 cellsOfActs (fun m cs y h => trod_acts h) hval h
  exact ⟨A, n, c, R, h1, h2, h3, ⟨h4.1, fun _ _ => trivial, h4.2.2⟩, h4.2.1⟩
end
end P12
end Go.Proofs.YtocojdiapaeajaaDoor
