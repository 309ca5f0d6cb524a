/-
  map[bool]int{true: 1}[b]: made, written, asked.
-/
import Derived.Test.YtgloccbcbgpneaaBase
import Derived.Carry
namespace Go.Proofs.Ytgloccbcbgpneaa
open Go.ChangeShapes Go.WideShapes Go.ChangeAt Go.RowKit

/-- The map's one entry. -/
def oneEntry : MapEntry := { key := .bool true, val := .int .i64 1, born := 0 }
theorem check_bool (em : Bool) (b : Bool) (w : World) : (Instr.checkKey em 10000 4 (.bool b)).run Try.prog w = .ok () w := by
  rw [Instr.checkKey]
  simp [run_underlying Try.underlying4]
theorem run_boolmap_put (w : World) : (Instr.mapUpdate 42 (.map (some w.heap.size)) (.bool true) (.int .i64 1)).run Try.prog (w.alloc (.map #[] 0)) = .ok () (w.alloc (.map #[oneEntry] 1)) := by
  have h : (w.alloc (.map #[] 0)).heap[w.heap.size]? = some (.map #[] 0) := heap_alloc_new w _
  simp [Instr.mapUpdate, run_underlying Try.underlying42, MapKept.run_getObj_map h, check_bool, Instr.findKey, run_underlying Try.underlying4, Instr.findNow, MapKept.run_setObj_map _ h]
  show ({ w with heap := (w.heap.push (Obj.map #[] 0)).setIfInBounds w.heap.size (Obj.map #[oneEntry] 1) } : World) = { w with heap := w.heap.push (Obj.map #[oneEntry] 1) }
  congr 1
  apply Array.ext_getElem?
  intro i
  rw [Array.getElem?_setIfInBounds, Array.getElem?_push, Array.getElem?_push, Array.size_push]
  by_cases hi : i = w.heap.size
  · subst hi; simp
  · rw [if_neg (Ne.symm hi), if_neg hi, if_neg hi]
theorem run_boolmap_get (w : World) (b : Bool) (d : Int) (hd : (b = true ∧ d = 1) ∨ (b = false ∧ d = 0)) : (Instr.lookup 42 (.map (some w.heap.size)) (.bool b) false).run Try.prog (w.alloc (.map #[oneEntry] 1)) = .ok (.int .i64 d) (w.alloc (.map #[oneEntry] 1)) := by
  unfold oneEntry
  have h := heap_alloc_new w (.map #[({ key := .bool true, val := .int .i64 1, born := 0 } : MapEntry)] 1)
  rcases hd with ⟨rfl, rfl⟩ | ⟨rfl, rfl⟩
  · simp [Instr.lookup, run_underlying Try.underlying42, MapKept.run_getObj_map h, check_bool, Instr.findKey, run_underlying Try.underlying4, Instr.findNow, Instr.sameNow]
  · simp [Instr.lookup, run_underlying Try.underlying42, MapKept.run_getObj_map h, check_bool, Instr.findKey, run_underlying Try.underlying4, Instr.findNow, Instr.sameNow]
end Go.Proofs.Ytgloccbcbgpneaa
