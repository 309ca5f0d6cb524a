/-
  Package prog: the words as a map: made, asked.
-/
import Derived.Test.YtocojdiapaeajaaDoorProgLib
import Derived.Test.YtocojdiapaeajaaDoorProgFn
import Derived.Carry
namespace Go.Proofs.YtocojdiapaeajaaDoor
open Go.ChangeShapes Go.WideShapes Go.ChangeAt Go.RowKit
set_option linter.unusedVariables false
set_option linter.unusedSimpArgs false
set_option maxRecDepth 100000
namespace P12

/-- A word's entry. -/
def ent (k : Nat) : MapEntry := { key := .string (bs (wd k)), val := .int .i64 k, born := k }
def ents : Nat → Array MapEntry
  | 0 => #[]
  | k + 1 => (ents k).push (ent k)
/-- The map of the words. -/
def KMap (w : World) (m : Nat) : Prop := w.heap[m]? = some (.map (ents 4) 4)
theorem KMap.gr {w w' : World} {m : Nat} (h : KMap w m) (g : Gr w w') : KMap w' m := by
  have : m < w.heap.size := (Array.getElem?_eq_some_iff.1 h).1
  unfold KMap; rw [g.block m this]; exact h
theorem check_str (em : Bool) (s : ByteArray) (w : World) : (Instr.checkKey em 10000 9 (.string s)).run Tryd.prog w = .ok () w := by
  rw [Instr.checkKey]
  simp [run_underlying Tryd.underlying9]
theorem run_makeMap4 (w : World) : (Instr.makeMap 75 (some (.int .i64 4))).run Tryd.prog w = .ok (.map (some w.heap.size)) (w.alloc (.map #[] 0)) := by
  simp [Instr.makeMap, asInt, asIntOf]
theorem bs_beq (a b : Bs) : (bs a == bs b) = decide (a = b) := by
  show ((bs a).data == (bs b).data) = decide (a = b)
  unfold bs
  by_cases h : a = b
  · subst h; simp
  · simp [h]
theorem run_put (k : Nat) (hk : k < 4) (w : World) : (Instr.mapUpdate 75 (.map (some w.heap.size)) (.string (bs (wd k))) (.int .i64 k)).run Tryd.prog (w.alloc (.map (ents k) k)) = .ok () (w.alloc (.map (ents (k + 1)) (k + 1))) := by
  have h : (w.alloc (.map (ents k) k)).heap[w.heap.size]? = some (.map (ents k) k) := heap_alloc_new w _
  have e : k = 0 ∨ k = 1 ∨ k = 2 ∨ k = 3 := by omega
  have hw : ({ w.alloc (.map (ents k) k) with heap := (w.alloc (.map (ents k) k)).heap.setIfInBounds w.heap.size (Obj.map (ents (k + 1)) (k + 1)) } : World) = w.alloc (.map (ents (k + 1)) (k + 1)) := by
    show ({ w with heap := (w.heap.push (Obj.map (ents k) k)).setIfInBounds w.heap.size (Obj.map (ents (k + 1)) (k + 1)) } : World) = { w with heap := w.heap.push (Obj.map (ents (k + 1)) (k + 1)) }
    congr 1
    apply Array.ext_getElem?
    intro i
    rw [Array.getElem?_setIfInBounds, Array.getElem?_push, Array.getElem?_push, Array.size_push]
    by_cases hi : i = w.heap.size
    · subst hi; simp
    · rw [if_neg (Ne.symm hi), if_neg hi, if_neg hi]
  generalize w.alloc (.map (ents k) k) = W at *
  rw [← hw]
  clear hw
  generalize w.heap.size = r at *
  rcases e with rfl | rfl | rfl | rfl <;>
    simp [Instr.mapUpdate, run_underlying Tryd.underlying75, MapKept.run_getObj_map h, check_str, Instr.findKey, run_underlying Tryd.underlying9, Instr.findNow, MapKept.run_setObj_map _ h, ents, ent, wd, bs_beq, Instr.sameNow]
theorem run_find {w : World} {m : Nat} (h : KMap w m) {k : Int} (hk : 0 ≤ k ∧ k ≤ 3) : (Instr.lookup 75 (.map (some m)) (.string (bs (wd k))) true).run Tryd.prog w = .ok (.tuple #[.int .i64 k, .bool true]) w := by
  have h' : w.heap[m]? = some (.map (ents 4) 4) := h
  have e : k = 0 ∨ k = 1 ∨ k = 2 ∨ k = 3 := by omega
  rcases e with rfl | rfl | rfl | rfl <;>
    simp [Instr.lookup, run_underlying Tryd.underlying75, MapKept.run_getObj_map h', check_str, Instr.findKey, run_underlying Tryd.underlying9, Instr.findNow, ents, ent, wd, bs_beq, Instr.sameNow]
theorem run_miss {w : World} {m : Nat} (h : KMap w m) {s : Bs} (hs : ∀ k : Int, 0 ≤ k ∧ k ≤ 3 → s ≠ wd k) : (Instr.lookup 75 (.map (some m)) (.string (bs s)) true).run Tryd.prog w = .ok (.tuple #[.int .i64 0, .bool false]) w := by
  have h' : w.heap[m]? = some (.map (ents 4) 4) := h
  have n0 := hs 0 (by omega)
  have n1 := hs 1 (by omega)
  have n2 := hs 2 (by omega)
  have n3 := hs 3 (by omega)
  simp [Instr.lookup, run_underlying Tryd.underlying75, MapKept.run_getObj_map h', check_str, Instr.findKey, run_underlying Tryd.underlying9, Instr.findNow, ents, ent, Instr.sameNow, bs_beq, n0, n1, n2, n3]

theorem index_words (W : World) (k : Int) (hk : 0 ≤ k ∧ k ≤ 3) : (Instr.index 70 (.agg #[.string (bs (wd 0)), .string (bs (wd 1)), .string (bs (wd 2)), .string (bs (wd 3))]) (.int .i64 k)).run Tryd.prog W = .ok (.string (bs (wd k))) W := by
  have e : k = 0 ∨ k = 1 ∨ k = 2 ∨ k = 3 := by omega
  rcases e with rfl | rfl | rfl | rfl <;> rfl
set_option maxHeartbeats 2000000 in
theorem kinds_is {w : World} (hg : Glob w) : Calls Tryd.prog 48 #[] w fun e w' => (∃ m, e = .returned (.map (some m)) ∧ KMap w' m) ∧ Gr w w' := by
  have c0 := (hg.word (k := 0) (by omega)).1
  have c1 := (hg.word (k := 1) (by omega)).1
  have c2 := (hg.word (k := 2) (by omega)).1
  have c3 := (hg.word (k := 3) (by omega)).1
  have hlt := (hg.word (k := 3) (by omega)).2
  have hmm := run_makeMap4
  have x0 : ∀ W, (Instr.index 70 (.agg #[.string (bs (wd 0)), .string (bs (wd 1)), .string (bs (wd 2)), .string (bs (wd 3))]) (.int .i64 0)).run Tryd.prog W = .ok (.string (bs (wd 0))) W := fun W => index_words W _ (by omega)
  have x1 : ∀ W, (Instr.index 70 (.agg #[.string (bs (wd 0)), .string (bs (wd 1)), .string (bs (wd 2)), .string (bs (wd 3))]) (.int .i64 1)).run Tryd.prog W = .ok (.string (bs (wd 1))) W := fun W => index_words W _ (by omega)
  have x2 : ∀ W, (Instr.index 70 (.agg #[.string (bs (wd 0)), .string (bs (wd 1)), .string (bs (wd 2)), .string (bs (wd 3))]) (.int .i64 2)).run Tryd.prog W = .ok (.string (bs (wd 2))) W := fun W => index_words W _ (by omega)
  have x3 : ∀ W, (Instr.index 70 (.agg #[.string (bs (wd 0)), .string (bs (wd 1)), .string (bs (wd 2)), .string (bs (wd 3))]) (.int .i64 3)).run Tryd.prog W = .ok (.string (bs (wd 3))) W := fun W => index_words W _ (by omega)
  have p0 : (Instr.mapUpdate 75 (.map (some w.heap.size)) (.string (bs (wd 0))) (.int .i64 0)).run Tryd.prog (w.alloc (.map (ents 0) 0)) = .ok () (w.alloc (.map (ents 1) 1)) := run_put 0 (by omega) w
  have p1 : (Instr.mapUpdate 75 (.map (some w.heap.size)) (.string (bs (wd 1))) (.int .i64 1)).run Tryd.prog (w.alloc (.map (ents 1) 1)) = .ok () (w.alloc (.map (ents 2) 2)) := run_put 1 (by omega) w
  have p2 : (Instr.mapUpdate 75 (.map (some w.heap.size)) (.string (bs (wd 2))) (.int .i64 2)).run Tryd.prog (w.alloc (.map (ents 2) 2)) = .ok () (w.alloc (.map (ents 3) 3)) := run_put 2 (by omega) w
  have p3 : (Instr.mapUpdate 75 (.map (some w.heap.size)) (.string (bs (wd 3))) (.int .i64 3)).run Tryd.prog (w.alloc (.map (ents 3) 3)) = .ok () (w.alloc (.map (ents 4) 4)) := run_put 3 (by omega) w
  rw [show (0 : Int).toNat = 0 from rfl] at c0
  rw [show (1 : Int).toNat = 1 from rfl] at c1
  rw [show (2 : Int).toNat = 2 from rfl] at c2
  rw [show (3 : Int).toNat = 3 from rfl] at c3
  go_enter Tryd.func48, Tryd.ntmps48
  go_wp2_with fail
  go_loopw [6] (fun i wr => ∃ (k : Nat) (z : Int), k ≤ 4 ∧ z = k ∧ i = .int .i64 z ∧ wr = w.alloc (.map (ents k) k)) (fun i _ => 4 - (intOf i).toNat)
  case atStart => exact ⟨0, 0, by omega, rfl, rfl, rfl⟩
  case round =>
    obtain ⟨k, z, hk, hz, rfl, rfl⟩ := hrel
    have e : k = 0 ∨ k = 1 ∨ k = 2 ∨ k = 3 ∨ k = 4 := by omega
    rcases e with rfl | rfl | rfl | rfl | rfl
    · obtain rfl : z = 0 := by simpa using hz
      clear hz hk
      go_wp2_with fail
      go_roundw
      case rel => exact ⟨1, 1, by omega, rfl, by go_num, rfl⟩
      case measure => decide
    · obtain rfl : z = 1 := by simpa using hz
      clear hz hk
      go_wp2_with fail
      go_roundw
      case rel => exact ⟨2, 2, by omega, rfl, by go_num, rfl⟩
      case measure => decide
    · obtain rfl : z = 2 := by simpa using hz
      clear hz hk
      go_wp2_with fail
      go_roundw
      case rel => exact ⟨3, 3, by omega, rfl, by go_num, rfl⟩
      case measure => decide
    · obtain rfl : z = 3 := by simpa using hz
      clear hz hk
      go_wp2_with fail
      go_roundw
      case rel => exact ⟨4, 4, by omega, rfl, by go_num, rfl⟩
      case measure => decide
    · obtain rfl : z = 4 := by simpa using hz
      clear hz hk
      go_wp2_with fail
      go_ret
      exact ⟨⟨_, rfl, heap_alloc_new w _⟩, (Gr.refl w).al _⟩
end P12
end Go.Proofs.YtocojdiapaeajaaDoor
