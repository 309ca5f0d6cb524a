/-
  A slice of nodes that reads as a list; a parameter api.Tree, opened; blocks of one cell.
-/
import Derived.Test.YtmkkeknimpjfoaaTreapMath
import Derived.Test.YtmkkeknimpjfoaaInts
import Derived.Lib.SmallJoins
import Derived.Deep.Strs
namespace Go.Proofs.Ytmkkeknimpjfoaa
open Go.ChangeShapes Go.WideShapes Go.ChangeAt Go.RowKit Go.Joins
set_option maxRecDepth 100000
set_option linter.unusedVariables false

/-- The slice at A, of n nodes, reads as l. -/
def NMem (w : World) (A : Option Addr) (n : Nat) (l : List Nd) : Prop :=
  l.length = n ∧ (∀ nd ∈ l, B64 nd.key ∧ B64 nd.left ∧ B64 nd.right) ∧ (0 < n → ∃ b off, A = some ⟨b, off, none⟩ ∧ b < w.heap.size ∧ ∀ j nd, l[j]? = some nd →
    w.cell? ⟨b, off + j * 3, none⟩ = some (.int .i64 nd.key) ∧ w.cell? ⟨b, off + j * 3 + 1, none⟩ = some (.int .i64 nd.left) ∧ w.cell? ⟨b, off + j * 3 + 2, none⟩ = some (.int .i64 nd.right))
section
variable {w w' : World} {A : Option Addr} {n : Nat} {l : List Nd}
theorem NMem.nil_ : NMem w A 0 [] := ⟨rfl, by simp, fun h => absurd h (by omega)⟩
theorem NMem.stays (h : NMem w A n l) (hs : w.heap.size ≤ w'.heap.size) (hb : ∀ k, A.map (·.block) = some k → k < w.heap.size → w'.heap[k]? = w.heap[k]?) : NMem w' A n l :=
  ⟨h.1, h.2.1, fun hn => by
    obtain ⟨b, off, rfl, hlt, hc⟩ := h.2.2 hn
    have e := hb b rfl hlt
    refine ⟨b, off, rfl, Nat.lt_of_lt_of_le hlt hs, fun j nd hj => ?_⟩
    rw [World.cell?_of_block (a := ⟨b, off + j * 3, none⟩) e, World.cell?_of_block (a := ⟨b, off + j * 3 + 1, none⟩) e, World.cell?_of_block (a := ⟨b, off + j * 3 + 2, none⟩) e]
    exact hc j nd hj⟩
theorem NMem.gr (h : NMem w A n l) (g : Gr w w') : NMem w' A n l := h.stays g.size fun k _ hk => g.block k hk
theorem NMem.at_ {k : Nat} (h : NMem w A n l) (hk : k < n) :
    ∃ b off nd, A = some ⟨b, off, none⟩ ∧ b < w.heap.size ∧ l[k]? = some nd ∧ B64 nd.key ∧ B64 nd.left ∧ B64 nd.right ∧
      w.cell? ⟨b, off + k * 3, none⟩ = some (.int .i64 nd.key) ∧ w.cell? ⟨b, off + k * 3 + 1, none⟩ = some (.int .i64 nd.left) ∧ w.cell? ⟨b, off + k * 3 + 2, none⟩ = some (.int .i64 nd.right) := by
  obtain ⟨b, off, e, hb, hc⟩ := h.2.2 (by omega)
  have hl : k < l.length := by have := h.1; omega
  have hx : l[k]? = some l[k] := List.getElem?_eq_getElem hl
  have hi := h.2.1 l[k] (List.getElem_mem hl)
  obtain ⟨c0, c1, c2⟩ := hc k _ hx
  exact ⟨b, off, l[k], e, hb, hx, hi.1, hi.2.1, hi.2.2, c0, c1, c2⟩
theorem NMem.cells {b off i : Nat} {nd : Nd} (h : NMem w (some ⟨b, off, none⟩) n l) (hx : l[i]? = some nd) :
    w.cell? ⟨b, off + i * 3, none⟩ = some (.int .i64 nd.key) ∧ w.cell? ⟨b, off + i * 3 + 1, none⟩ = some (.int .i64 nd.left) ∧ w.cell? ⟨b, off + i * 3 + 2, none⟩ = some (.int .i64 nd.right) := by
  obtain ⟨b', off', e, hb, hc⟩ := h.2.2 (by have := (List.getElem?_eq_some_iff.1 hx).1; have := h.1; omega)
  cases e
  exact hc i nd hx
theorem NMem.take_ (h : NMem w A n l) (k : Nat) (hk : k ≤ n) : NMem w A k (l.take k) :=
  ⟨by rw [List.length_take, h.1]; omega, fun x hx => h.2.1 x (List.mem_of_mem_take hx), fun hn => by
    obtain ⟨b, off, e, hb, hc⟩ := h.2.2 (by omega)
    refine ⟨b, off, e, hb, fun j u hu => hc j u ?_⟩
    rw [List.getElem?_take] at hu
    split at hu
    · exact hu
    · cases hu⟩
end

/-- A block of these cells. -/
def Blk (w : World) (b : Nat) (vs : Array Value) (t : TypeId) : Prop := w.heap[b]? = some (.cells vs t (0, 0))
section
variable {w w' : World} {b : Nat} {vs : Array Value} {t : TypeId}
theorem Blk.gr (h : Blk w b vs t) (g : Gr w w') : Blk w' b vs t := by
  have : b < w.heap.size := (Array.getElem?_eq_some_iff.1 h).1
  unfold Blk; rw [g.block b this]; exact h
theorem Blk.lt (h : Blk w b vs t) : b < w.heap.size := (Array.getElem?_eq_some_iff.1 h).1
theorem Blk.new (w : World) (vs : Array Value) (t : TypeId) : Blk (w.alloc (.cells vs t)) w.heap.size vs t := by
  unfold Blk
  exact heap_alloc_new w _
theorem Blk.at_ (h : Blk w b vs t) {k : Nat} {v : Value} (hv : vs[k]? = some v) : w.cell? ⟨b, k, none⟩ = some v ∧ w.frozen? ⟨b, k, none⟩ = false := by
  have h' : w.heap[b]? = _ := h
  refine ⟨?_, by simp [World.frozen?, h']⟩
  rw [cell_of_row w b k vs t (0, 0) h']
  exact hv
theorem Blk.set (h : Blk w b vs t) (k : Nat) (v : Value) : Blk (w.setCell ⟨b, k, none⟩ v) b (vs.setIfInBounds k v) t := by
  unfold Blk at *
  simp [World.setCell, Array.getElem?_modify, h]
theorem Blk.al (h : Blk w b vs t) (o : Obj) : Blk (w.alloc o) b vs t := h.gr ((Gr.refl w).al o)
theorem Blk.st (h : Blk w b vs t) {p : Addr} (hp : p.block ≠ b) (v : Value) : Blk (w.setCell p v) b vs t := by
  unfold Blk at *
  simp [World.setCell, Array.getElem?_modify, hp, h]
theorem Blk.gb (h : Blk w b vs t) {R : Option Nat} (hg : w.grownBy w' R) (hr : R ≠ some b) : Blk w' b vs t := by
  unfold Blk
  rw [hg.block b h.lt (fun e => hr e.symm)]; exact h
end

theorem cellsOfNode : Try.prog.cellsOf 94 = 3 := by kernel_rfl

section
variable {H : Type} {enc : TypeId × Value → H} {W : World}
set_option maxRecDepth 100000 in
theorem trod_node {sp : Nat → Bool} {m : Nat} {cs : List Value} {y : DataW H × List MemPlace} (h : DataW.trod enc Try.prog W 0 sp true m 94 cs = some y) :
    ∃ nd : Nd, cs = [.int .i64 nd.key, .int .i64 nd.left, .int .i64 nd.right] ∧ B64 nd.key ∧ B64 nd.left ∧ B64 nd.right := by
  obtain ⟨y0, y1, y2, k, rfl, hl, t0, t1, t2⟩ := Deep.trod_struct3 Try.underlying94 h
  rw [cellsOfNode] at hl
  match cs, hl with
  | [v0, v1, v2], _ =>
    have e := cellsOfInt
    change DataW.trod enc Try.prog W 0 sp true k 3 (([v0, v1, v2].drop 0).take (Try.prog.cellsOf 3)) = some y0 at t0
    change DataW.trod enc Try.prog W 0 sp true k 3 (([v0, v1, v2].drop 1).take (Try.prog.cellsOf 3)) = some y1 at t1
    change DataW.trod enc Try.prog W 0 sp true k 3 (([v0, v1, v2].drop 2).take (Try.prog.cellsOf 3)) = some y2 at t2
    rw [e] at t0 t1 t2
    obtain ⟨a, ha, _, wa⟩ := DataW.trod_int Try.underlying3 t0
    obtain ⟨b, hb, _, wb⟩ := DataW.trod_int Try.underlying3 t1
    obtain ⟨c, hc, _, wc⟩ := DataW.trod_int Try.underlying3 t2
    simp at ha hb hc
    subst ha hb hc
    exact ⟨⟨a, b, c⟩, rfl, wfb wa, wfb wb, wfb wc⟩

theorem open_nodes {sp : Nat → Bool} {k : Nat} {cs : List Value} {y : DataW H × List MemPlace} (hf : DataW.trod enc Try.prog W 0 sp true k 82 cs = some y) :
    ∃ (A : Option Addr) (n c : Nat) (l : List Nd), cs = [.slice A n c] ∧ n ≤ c ∧ c ≤ 9223372036854775807 ∧ NMem W A n l := by
  rcases DataW.trod_slice Try.underlying82 hf with ⟨hcs, _⟩ | ⟨a, len, cap, elems, rest, m, _, hcs, _, _, hl, hm, hlen, hel, _, _⟩
  · exact ⟨none, 0, 0, [], hcs, by omega, by omega, NMem.nil_⟩
  · unfold maxLen at hm
    have hx : ∀ i, i < len → ∃ nd : Nd, (B64 nd.key ∧ B64 nd.left ∧ B64 nd.right) ∧ W.cell? (a.add (i * 3)) = some (.int .i64 nd.key) ∧ W.cell? (a.add (i * 3 + 1)) = some (.int .i64 nd.left) ∧ W.cell? (a.add (i * 3 + 2)) = some (.int .i64 nd.right) := by
      intro i hi
      have hy := hel i hi
      rw [List.getElem?_eq_getElem (by omega), Option.bind_eq_some_iff] at hy
      obtain ⟨cs', h1, h2⟩ := hy
      rw [cellsOfNode] at h1
      obtain ⟨nd, rfl, hb⟩ := trod_node h2
      obtain ⟨_, _, hcell⟩ := World.cells?_some h1
      have e0 := hcell 0 (by omega)
      have e1 := hcell 1 (by omega)
      have e2 := hcell 2 (by omega)
      rw [Deep.add_add] at e0 e1 e2
      exact ⟨nd, hb, by simpa using e0, by simpa using e1, by simpa using e2⟩
    obtain ⟨q, hq⟩ := Deep.choose_lt hx
    refine ⟨some a, len, cap, (List.range len).map q, hcs, hl, by omega, by simp, ?_, ?_⟩
    · intro x hx
      simp only [List.mem_map, List.mem_range] at hx
      obtain ⟨i, hi, rfl⟩ := hx
      exact (hq i hi).1
    · intro h0
      obtain ⟨b, off, spot⟩ := a
      have hspot : spot = none := by simpa [Addr.add] using World.cell?_spot (hq 0 h0).2.1
      subst hspot
      refine ⟨b, off, rfl, World.block_lt_of_cell? W _ (by simpa [Addr.add] using (hq 0 h0).2.1), fun j nd hj => ?_⟩
      rw [List.getElem?_map, Option.map_eq_some_iff] at hj
      obtain ⟨i, hi, rfl⟩ := hj
      obtain ⟨hi1, rfl⟩ := List.getElem?_eq_some_iff.1 hi
      rw [List.length_range] at hi1
      rw [List.getElem_range]
      obtain ⟨_, c0, c1, c2⟩ := hq j hi1
      rw [add_plain] at c0 c1 c2
      exact ⟨c0, c1, c2⟩

/-- A parameter api.Tree. -/
theorem open_tree {base : Nat} {sp : Nat → Bool} {v : Value} {d : DataW H} {ps : List MemPlace}
    (hval : Value.okWide Try.prog W .any base 84 v) (h : DataW.Trod enc Try.prog W 0 sp true 84 v d ps) :
    ∃ (r : Int) (A : Option Addr) (n c : Nat) (l : List Nd), v = .agg #[.int .i64 r, .slice A n c] ∧ B64 r ∧ n ≤ c ∧ c ≤ 9223372036854775807 ∧ NMem W A n l := by
  obtain ⟨v0, v1, y0, y1, k, rfl, rfl, rfl, t0, t1⟩ := open_agg2 Try.underlying84 (by kernel_rfl) (by kernel_rfl) hval h
  obtain ⟨r, hr, -, hw⟩ := DataW.trod_int Try.underlying3 t0
  obtain ⟨A, n, c, l, hs, h1, h2, h3⟩ := open_nodes t1
  cases hr
  cases hs
  exact ⟨r, A, n, c, l, rfl, wfb hw, h1, h2, h3⟩
end
end Go.Proofs.Ytmkkeknimpjfoaa
