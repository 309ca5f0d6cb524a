/-
  Package spin: what its calls answer.
-/
import Derived.Test.YtibbndoohpfbmaaWordMath
import Derived.Defers
import Derived.FnLit
namespace Go.Proofs.Ytibbndoohpfbmaa
open Go.ChangeShapes Go.WideShapes Go.ChangeAt Go.RowKit
set_option linter.unusedVariables false

/-- How many are out. -/
def outT (n s : Int) : Int := wd 1 (wrap64 (n - s))
/-- The next one. -/
def up1 (v : Int) : Int := wd 1 (wrap64 (v + 1))
/-- Tickets that may be. -/
def tkB (n s : Int) : Bool := fitB 1 n && fitB 1 s
/-- A number that an int holds. -/
def B64 (v : Int) : Prop := -9223372036854775808 ≤ v ∧ v ≤ 9223372036854775807

/-- Block g is just tickets. -/
def Two (w : World) (g : Nat) (n s : Int) : Prop := w.heap[g]? = some (.cells #[.int .i64 n, .int .i64 s] 23 (0, 0))
section
variable {w w' : World} {g : Nat} {n s : Int}
theorem Two.lt (h : Two w g n s) : g < w.heap.size := (Array.getElem?_eq_some_iff.1 h).1
theorem Two.new (w : World) (n s : Int) : Two (w.alloc (.cells #[.int .i64 n, .int .i64 s] 23)) w.heap.size n s := heap_alloc_new w _
theorem Two.new' (w : World) (n s : Int) {g : Nat} (h : w.heap.size = g) : Two (w.alloc (.cells #[.int .i64 n, .int .i64 s] 23)) g n s := h ▸ heap_alloc_new w _
theorem Two.gr (h : Two w g n s) (G : Gr w w') : Two w' g n s := (G.block g h.lt).trans h
theorem Two.cells (h : Two w g n s) : w.cell? ⟨g, 0, none⟩ = some (.int .i64 n) ∧ w.cell? ⟨g, 1, none⟩ = some (.int .i64 s) :=
  ⟨by rw [cell_of_row w g 0 _ _ (0, 0) h]; rfl, by rw [cell_of_row w g 1 _ _ (0, 0) h]; rfl⟩
theorem Two.frozen (h : Two w g n s) (i : Nat) : w.frozen? ⟨g, i, none⟩ = false := by
  unfold Two at h
  simp [World.frozen?, h]
theorem Two.far (h : Two w g n s) {p : Addr} (hp : g ≠ p.block) (u : Value) : Two (w.setCell p u) g n s := (Below.heap_setCell w p u g hp).trans h
theorem Two.set0 (h : Two w g n s) (x : Int) : Two (w.setCell ⟨g, 0, none⟩ (.int .i64 x)) g x s := by
  unfold Two at h ⊢
  simp [World.setCell, Array.getElem?_modify, h]
theorem Two.set1 (h : Two w g n s) (x : Int) : Two (w.setCell ⟨g, 1, none⟩ (.int .i64 x)) g n x := by
  unfold Two at h ⊢
  simp [World.setCell, Array.getElem?_modify, h]
end

set_option maxHeartbeats 1000000 in
theorem Right_is {n s : Int} {r : Bool} (hr : tkB n s = r) (hn : B64 n) (hs : B64 s) (w : World) :
    Calls Try.prog 11 #[.agg #[.int .i64 n, .int .i64 s]] w fun e w' => e = .returned (.bool r) ∧ Gr w w' := by
  obtain ⟨a, ha⟩ : ∃ a, fitB 1 n = a := ⟨_, rfl⟩
  obtain ⟨b, hb⟩ : ∃ b, fitB 1 s = b := ⟨_, rfl⟩
  unfold tkB at hr
  rw [ha, hb] at hr
  subst hr
  have c1 := fun w => Lib.hid (Fits_is ha hn w)
  have c2 := fun w => Lib.hid (Fits_is hb hs w)
  clear ha hb
  cases a
  · go_enter Try.func11, Try.ntmps11
    go_wp2_with fail
    refine (c1 _).out.mono ?_
    rintro e w1 ⟨rfl, hb1⟩
    go_wp2_with fail
    go_ret
    exact ⟨rfl, ((Gr.refl w).al _).trans hb1⟩
  · go_enter Try.func11, Try.ntmps11
    go_wp2_with fail
    refine (c1 _).out.mono ?_
    rintro e w1 ⟨rfl, hb1⟩
    have X := (Two.new w n s).gr hb1
    obtain ⟨q0, q1⟩ := X.cells
    go_wp2_with fail
    refine (c2 _).out.mono ?_
    rintro e w2 ⟨rfl, hb2⟩
    go_wp2_with fail
    go_ret
    exact ⟨rfl, (((Gr.refl w).al _).trans hb1).trans hb2⟩

set_option maxHeartbeats 1000000 in
theorem out_is {n s r : Int} (hr : outT n s = r) (w : World) :
    Calls Try.prog 24 #[.agg #[.int .i64 n, .int .i64 s]] w fun e w' => e = .returned (.int .i64 r) ∧ Gr w w' := by
  have c1 := fun w => Lib.hid (Wrap_is (k := 1) (v := wrap64 (n - s)) hr (by omega) (wrap64_b _) w)
  clear hr
  go_enter Try.func24, Try.ntmps24
  go_wp2_with fail
  refine (c1 _).out.mono ?_
  rintro e w1 ⟨rfl, hb1⟩
  go_wp2_with fail
  go_ret
  exact ⟨rfl, ((Gr.refl w).al _).trans hb1⟩

set_option maxHeartbeats 1000000 in
theorem served_is {n s m : Int} {r : Bool} (hr : (m == s) = r) (w : World) :
    Calls Try.prog 21 #[.agg #[.int .i64 n, .int .i64 s, .int .i64 m]] w fun e w' => e = .returned (.bool r) ∧ Gr w w' := by
  go_enter Try.func21, Try.ntmps21
  go_wp2_with fail
  go_ret
  exact ⟨rfl, (Gr.refl w).al _⟩

set_option maxHeartbeats 1000000 in
theorem toldI_yes {n s r : Int} (hr : tkB n s = true) (ho : outT n s = r) (hn : B64 n) (hs : B64 s) (w : World) :
    Calls Try.prog 23 #[.agg #[.int .i64 n, .int .i64 s], .func (.func 24) #[.agg #[.int .i64 n, .int .i64 s]] #[]] w fun e w' => e = .returned (.tuple #[.int .i64 r, .int .i64 0]) ∧ Gr w w' := by
  have c1 := fun w => Lib.hid (Right_is hr hn hs w)
  have c2 := fun w => Lib.hid (out_is ho w)
  clear hr ho
  go_enter Try.func23, Try.ntmps23
  go_wp2_with fail
  refine (c1 _).out.mono ?_
  rintro e w1 ⟨rfl, hb1⟩
  go_wp2_with fail
  refine (c2 _).out.mono ?_
  rintro e w2 ⟨rfl, hb2⟩
  go_wp2_with fail
  go_ret2
  exact ⟨rfl, (((Gr.refl w).al _).trans hb1).trans hb2⟩
set_option maxHeartbeats 1000000 in
theorem toldI_no {n s : Int} (hr : tkB n s = false) (hn : B64 n) (hs : B64 s) (f : Value) (w : World) :
    Calls Try.prog 23 #[.agg #[.int .i64 n, .int .i64 s], f] w fun e w' => e = .returned (.tuple #[.int .i64 0, .int .i64 1]) ∧ Gr w w' := by
  have c1 := fun w => Lib.hid (Right_is hr hn hs w)
  clear hr
  go_enter Try.func23, Try.ntmps23
  go_wp2_with fail
  refine (c1 _).out.mono ?_
  rintro e w1 ⟨rfl, hb1⟩
  go_wp2_with fail
  go_ret2
  exact ⟨rfl, ((Gr.refl w).al _).trans hb1⟩
set_option maxHeartbeats 1000000 in
theorem toldB_yes {n s m : Int} {r : Bool} (hr : tkB n s = true) (ho : (m == s) = r) (hn : B64 n) (hs : B64 s) (w : World) :
    Calls Try.prog 20 #[.agg #[.int .i64 n, .int .i64 s], .func (.func 21) #[.agg #[.int .i64 n, .int .i64 s, .int .i64 m]] #[]] w fun e w' => e = .returned (.tuple #[.bool r, .int .i64 0]) ∧ Gr w w' := by
  have c1 := fun w => Lib.hid (Right_is hr hn hs w)
  have c2 := fun w => Lib.hid (served_is (n := n) ho w)
  clear hr ho
  go_enter Try.func20, Try.ntmps20
  go_wp2_with fail
  refine (c1 _).out.mono ?_
  rintro e w1 ⟨rfl, hb1⟩
  go_wp2_with fail
  refine (c2 _).out.mono ?_
  rintro e w2 ⟨rfl, hb2⟩
  go_wp2_with fail
  go_ret2
  exact ⟨rfl, (((Gr.refl w).al _).trans hb1).trans hb2⟩
set_option maxHeartbeats 1000000 in
theorem toldB_no {n s : Int} (hr : tkB n s = false) (hn : B64 n) (hs : B64 s) (f : Value) (w : World) :
    Calls Try.prog 20 #[.agg #[.int .i64 n, .int .i64 s], f] w fun e w' => e = .returned (.tuple #[.bool false, .int .i64 1]) ∧ Gr w w' := by
  have c1 := fun w => Lib.hid (Right_is hr hn hs w)
  clear hr
  go_enter Try.func20, Try.ntmps20
  go_wp2_with fail
  refine (c1 _).out.mono ?_
  rintro e w1 ⟨rfl, hb1⟩
  go_wp2_with fail
  go_ret2
  exact ⟨rfl, ((Gr.refl w).al _).trans hb1⟩

/-- What Out tells: (v, q). -/
def OutIs (n s v q : Int) : Prop := (tkB n s = true ∧ outT n s = v ∧ q = 0) ∨ (tkB n s = false ∧ v = 0 ∧ q = 1)
/-- What Turn tells. -/
def TurnIs (n s m : Int) (v : Bool) (q : Int) : Prop := (tkB n s = true ∧ (m == s) = v ∧ q = 0) ∨ (tkB n s = false ∧ v = false ∧ q = 1)

set_option maxHeartbeats 1000000 in
theorem Out_is {n s v q : Int} (h : OutIs n s v q) (hn : B64 n) (hs : B64 s) (w : World) :
    Calls Try.prog 10 #[.agg #[.int .i64 n, .int .i64 s]] w fun e w' => e = .returned (.tuple #[.int .i64 v, .int .i64 q]) ∧ Gr w w' := by
  have hmf : ∀ (fn : Fn) (first cap : Array Value) (w : World), (Instr.makeFunc fn first cap).run Try.prog w = .ok (.func fn first cap) w := fun _ _ _ _ => rfl
  have c : ∀ w, Hid (Calls Try.prog 23 #[.agg #[.int .i64 n, .int .i64 s], .func (.func 24) #[.agg #[.int .i64 n, .int .i64 s]] #[]] w fun e w' => e = .returned (.tuple #[.int .i64 v, .int .i64 q]) ∧ Gr w w') := fun w => by
    rcases h with ⟨h1, h2, rfl⟩ | ⟨h1, rfl, rfl⟩
    · exact Lib.hid (toldI_yes h1 h2 hn hs w)
    · exact Lib.hid (toldI_no h1 hn hs _ w)
  clear h
  go_enter Try.func10, Try.ntmps10
  go_wp2_with fail
  refine (c _).out.mono ?_
  rintro e w1 ⟨rfl, hb1⟩
  go_wp2_with fail
  go_ret2
  exact ⟨rfl, ((Gr.refl w).al _).trans hb1⟩
set_option maxHeartbeats 1000000 in
theorem Turn_is {n s m : Int} {v : Bool} {q : Int} (h : TurnIs n s m v q) (hn : B64 n) (hs : B64 s) (w : World) :
    Calls Try.prog 8 #[.agg #[.int .i64 n, .int .i64 s], .int .i64 m] w fun e w' => e = .returned (.tuple #[.bool v, .int .i64 q]) ∧ Gr w w' := by
  have hmf : ∀ (fn : Fn) (first cap : Array Value) (w : World), (Instr.makeFunc fn first cap).run Try.prog w = .ok (.func fn first cap) w := fun _ _ _ _ => rfl
  have c : ∀ w, Hid (Calls Try.prog 20 #[.agg #[.int .i64 n, .int .i64 s], .func (.func 21) #[.agg #[.int .i64 n, .int .i64 s, .int .i64 m]] #[]] w fun e w' => e = .returned (.tuple #[.bool v, .int .i64 q]) ∧ Gr w w') := fun w => by
    rcases h with ⟨h1, h2, rfl⟩ | ⟨h1, rfl, rfl⟩
    · exact Lib.hid (toldB_yes h1 h2 hn hs w)
    · exact Lib.hid (toldB_no h1 hn hs _ w)
  clear h
  go_enter Try.func8, Try.ntmps8
  go_wp2_with fail
  refine (c _).out.mono ?_
  rintro e w1 ⟨rfl, hb1⟩
  go_wp2_with fail
  go_ret2
  exact ⟨rfl, ((Gr.refl w).al _).trans hb1⟩
end Go.Proofs.Ytibbndoohpfbmaa
