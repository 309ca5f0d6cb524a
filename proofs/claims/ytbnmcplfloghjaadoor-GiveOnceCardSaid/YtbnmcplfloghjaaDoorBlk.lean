/-
  A whole block of cells: what is said of it in later worlds.
-/
import Derived.Test.YtbnmcplfloghjaaDoorBase
import Derived.Laws.OwnMore
import Derived.Deep.AppendLies
namespace Go.Proofs.YtbnmcplfloghjaaDoor
open Go.ChangeShapes Go.WideShapes Go.ChangeAt Go.RowKit

/-- A block of these cells. -/
def Blk (w : World) (b : Nat) (vs : Array Value) (t : TypeId) : Prop := w.heap[b]? = some (.cells vs t (0, 0))
section
variable {w w' : World} {b : Nat} {vs : Array Value} {t : TypeId}
theorem Blk.gr (h : Blk w b vs t) (g : Gr w w') : Blk w' b vs t := by
  have : b < w.heap.size := (Array.getElem?_eq_some_iff.1 h).1
  unfold Blk; rw [g.block b this]; exact h
theorem Blk.lt (h : Blk w b vs t) : b < w.heap.size := (Array.getElem?_eq_some_iff.1 h).1
theorem Blk.new (w : World) (vs : Array Value) (t : TypeId) : Blk (w.alloc (.cells vs t)) w.heap.size vs t := by
  unfold Blk
  exact heap_alloc_new w _
theorem Blk.at_ (h : Blk w b vs t) {k : Nat} {v : Value} (hv : vs[k]? = some v) : w.cell? ⟨b, k, none⟩ = some v ∧ w.frozen? ⟨b, k, none⟩ = false := by
  have h' : w.heap[b]? = _ := h
  refine ⟨?_, by simp [World.frozen?, h']⟩
  rw [cell_of_row w b k vs t (0, 0) h']
  exact hv
theorem Blk.set (h : Blk w b vs t) (k : Nat) (v : Value) : Blk (w.setCell ⟨b, k, none⟩ v) b (vs.setIfInBounds k v) t := by
  unfold Blk at *
  simp [World.setCell, Array.getElem?_modify, h]
theorem Blk.al (h : Blk w b vs t) (o : Obj) : Blk (w.alloc o) b vs t := h.gr ((Gr.refl w).al o)
theorem Blk.st (h : Blk w b vs t) {p : Addr} (hp : p.block ≠ b) (v : Value) : Blk (w.setCell p v) b vs t := by
  unfold Blk at *
  simp [World.setCell, Array.getElem?_modify, hp, h]
theorem Blk.gb (h : Blk w b vs t) {R : Option Nat} (hg : w.grownBy w' R) (hr : R ≠ some b) : Blk w' b vs t := by
  unfold Blk
  rw [hg.block b h.lt (fun e => hr e.symm)]; exact h
end
end Go.Proofs.YtbnmcplfloghjaaDoor
