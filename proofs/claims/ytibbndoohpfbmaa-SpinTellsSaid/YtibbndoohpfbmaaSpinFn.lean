/-
  Package spin: Draw, Done, Can.
-/
import Derived.Test.YtibbndoohpfbmaaSpin
namespace Go.Proofs.Ytibbndoohpfbmaa
open Go.ChangeShapes Go.WideShapes Go.ChangeAt Go.RowKit
set_option linter.unusedVariables false

set_option maxHeartbeats 1000000 in
theorem advance_is {v x : Int} (hx : up1 v = x) (b o : Nat) (w : World) (hc : w.cell? ⟨b, o, none⟩ = some (.int .i64 v)) (hz : w.frozen? ⟨b, o, none⟩ = false) (hl : b < w.heap.size) :
    Calls Try.prog 22 #[.pointer (some ⟨b, o, none⟩)] w fun e w' => e = .returned (.tuple #[]) ∧ ∃ w1, Gr w w1 ∧ w' = w1.setCell ⟨b, o, none⟩ (.int .i64 x) := by
  have c1 := fun w => Lib.hid (Add_is (k := 1) (a := v) (b := 1) hx (by omega) w)
  clear hx
  go_enter Try.func22, Try.ntmps22
  go_wp2_with fail
  refine (c1 _).out.mono ?_
  rintro e w1 ⟨rfl, hb1⟩
  have hc1 := (hb1.cell (p := ⟨b, o, none⟩) hl).trans hc
  have hz1 := (hb1.frozen (p := ⟨b, o, none⟩) hl).trans hz
  go_wp2_with fail
  go_end0
  exact ⟨rfl, w1, hb1, rfl⟩
set_option maxHeartbeats 1000000 in
theorem advance_d {v x : Int} (hx : up1 v = x) (b o : Nat) (u : FrameMode) (w : World) (hc : w.cell? ⟨b, o, none⟩ = some (.int .i64 v)) (hz : w.frozen? ⟨b, o, none⟩ = false) (hl : b < w.heap.size) :
    CallsD Try.prog 22 #[.pointer (some ⟨b, o, none⟩)] u w fun e u' w' => u' = u ∧ (e = .returned (.tuple #[]) ∧ ∃ w1, Gr w w1 ∧ w' = w1.setCell ⟨b, o, none⟩ (.int .i64 x)) := by
  have c1 := fun w => Lib.hid (Add_is (k := 1) (a := v) (b := 1) hx (by omega) w)
  clear hx
  go_enter_d Try.func22, Try.ntmps22
  go_wp2_with fail
  refine (c1 _).out.mono ?_
  rintro e w1 ⟨rfl, hb1⟩
  have hc1 := (hb1.cell (p := ⟨b, o, none⟩) hl).trans hc
  have hz1 := (hb1.frozen (p := ⟨b, o, none⟩) hl).trans hz
  go_wp2_with fail
  go_end0
  exact ⟨rfl, w1, hb1, rfl⟩
set_option maxHeartbeats 1000000 in
theorem take_is {v x : Int} (hx : up1 v = x) (b o : Nat) (w : World) (hc : w.cell? ⟨b, o, none⟩ = some (.int .i64 v)) (hz : w.frozen? ⟨b, o, none⟩ = false) (hl : b < w.heap.size) :
    Calls Try.prog 19 #[.pointer (some ⟨b, o, none⟩)] w fun e w' => e = .returned (.int .i64 v) ∧ ∃ w1, Gr w w1 ∧ w' = w1.setCell ⟨b, o, none⟩ (.int .i64 x) := by
  go_enter_defers Try.func19, Try.ntmps19
  go_wp2
  refine leaves_cons (f := 22) (args := #[.pointer (some ⟨b, o, none⟩)]) (by simp) (by simp [go_sem]) ?_
  refine (advance_d hx b o .returning _ (by simpa using hc) (by simpa using hz) (by simpa using hl)).mono ?_
  rintro e u' w'' ⟨rfl, rfl, w1, hg, rfl⟩
  exact ⟨_, results_tmp rfl _ _ _, rfl, w1, hg, rfl⟩

/-- What Draw tells. -/
def DrawIs (n s a b m q : Int) : Prop :=
  (tkB n s = false ∧ a = 0 ∧ b = 0 ∧ m = 0 ∧ q = 1) ∨ (tkB n s = true ∧ outT n s = 4294967295 ∧ a = 0 ∧ b = 0 ∧ m = 0 ∧ q = 5) ∨ (tkB n s = true ∧ outT n s ≠ 4294967295 ∧ a = up1 n ∧ b = s ∧ m = n ∧ q = 0)
/-- What Done tells. -/
def DoneIs (n s a b q : Int) : Prop :=
  (tkB n s = false ∧ a = 0 ∧ b = 0 ∧ q = 1) ∨ (tkB n s = true ∧ outT n s = 0 ∧ a = 0 ∧ b = 0 ∧ q = 6) ∨ (tkB n s = true ∧ outT n s ≠ 0 ∧ a = n ∧ b = up1 s ∧ q = 0)

set_option maxHeartbeats 1000000 in
theorem Draw_no {n s : Int} (h : tkB n s = false) (hn : B64 n) (hs : B64 s) (w : World) :
    Calls Try.prog 7 #[.agg #[.int .i64 n, .int .i64 s]] w fun e w' => e = .returned (.tuple #[.agg #[.int .i64 0, .int .i64 0], .int .i64 0, .int .i64 1]) ∧ Gr w w' := by
  have c1 := fun w => Lib.hid (Out_is (.inr ⟨h, rfl, rfl⟩) hn hs w)
  go_enter Try.func7, Try.ntmps7
  go_wp2_with fail
  refine (c1 _).out.mono ?_
  rintro e w1 ⟨rfl, hb1⟩
  have X := (Two.new (w.alloc (.cells #[.int .i64 n, .int .i64 s] 23)) 0 0).gr hb1
  have G := (((Gr.refl w).al _).al _).trans hb1
  obtain ⟨q0, q1⟩ := X.cells
  have f0 := X.frozen 0
  have f1 := X.frozen 1
  simp at q0 q1 f0 f1
  go_wp2_with fail
  refine bodyPost_ret (v := .tuple #[.agg #[.int .i64 0, .int .i64 0], .int .i64 0, .int .i64 1]) (by simp [results, Try.results7, go_sem, q0, q1]) rfl ⟨rfl, ?_⟩
  exact (G.st (by simp) _).st (by simp) _
set_option maxHeartbeats 1000000 in
theorem Draw_full {n s : Int} (h : tkB n s = true) (ho : outT n s = 4294967295) (hn : B64 n) (hs : B64 s) (w : World) :
    Calls Try.prog 7 #[.agg #[.int .i64 n, .int .i64 s]] w fun e w' => e = .returned (.tuple #[.agg #[.int .i64 0, .int .i64 0], .int .i64 0, .int .i64 5]) ∧ Gr w w' := by
  have c1 := fun w => Lib.hid (Out_is (.inl ⟨h, ho, rfl⟩) hn hs w)
  clear ho
  go_enter Try.func7, Try.ntmps7
  go_wp2_with fail
  refine (c1 _).out.mono ?_
  rintro e w1 ⟨rfl, hb1⟩
  have X := (Two.new (w.alloc (.cells #[.int .i64 n, .int .i64 s] 23)) 0 0).gr hb1
  have G := (((Gr.refl w).al _).al _).trans hb1
  obtain ⟨q0, q1⟩ := X.cells
  have f0 := X.frozen 0
  have f1 := X.frozen 1
  simp at q0 q1 f0 f1
  go_wp2_with fail
  refine bodyPost_ret (v := .tuple #[.agg #[.int .i64 0, .int .i64 0], .int .i64 0, .int .i64 5]) (by simp [results, Try.results7, go_sem, q0, q1]) rfl ⟨rfl, ?_⟩
  exact (G.st (by simp) _).st (by simp) _
set_option maxHeartbeats 1000000 in
theorem Draw_yes {n s x : Int} (h : tkB n s = true) (ho : outT n s ≠ 4294967295) (hx : up1 n = x) (hn : B64 n) (hs : B64 s) (w : World) :
    Calls Try.prog 7 #[.agg #[.int .i64 n, .int .i64 s]] w fun e w' => e = .returned (.tuple #[.agg #[.int .i64 x, .int .i64 s], .int .i64 n, .int .i64 0]) ∧ Gr w w' := by
  obtain ⟨v, hv⟩ : ∃ v, outT n s = v := ⟨_, rfl⟩
  rw [hv] at ho
  have hne : (v == 4294967295) = false := beq_eq_false_iff_ne.2 ho
  have c1 := fun w => Lib.hid (Out_is (.inl ⟨h, hv, rfl⟩) hn hs w)
  have HX := Lib.hid hx
  clear ho hv hx
  go_enter Try.func7, Try.ntmps7
  go_wp2_with fail
  refine (c1 _).out.mono ?_
  rintro e w1 ⟨rfl, hb1⟩
  have X := (Two.new (w.alloc (.cells #[.int .i64 n, .int .i64 s] 23)) 0 0).gr hb1
  have Y := ((Two.new w n s).gr ((Gr.refl _).al (.cells #[.int .i64 0, .int .i64 0] 23))).gr hb1
  have G := (((Gr.refl w).al _).al _).trans hb1
  rw [show (w.alloc (.cells #[.int .i64 n, .int .i64 s] 23)).heap.size = w.heap.size + 1 from by simp] at X
  go_wp2_with fail
  refine (take_is HX.out w.heap.size 0 _ Y.cells.1 (Y.frozen 0) Y.lt).mono ?_
  rintro e w2 ⟨rfl, w3, hb3, rfl⟩
  replace Y := (Y.gr hb3).set0 x
  replace X := (X.gr hb3).far (p := ⟨w.heap.size, 0, none⟩) (by simp) (.int .i64 x)
  replace G := (G.trans hb3).st (p := ⟨w.heap.size, 0, none⟩) (Nat.le_refl _) (.int .i64 x)
  generalize hW : w3.setCell ⟨w.heap.size, 0, none⟩ (.int .i64 x) = W at *
  obtain ⟨y0, y1⟩ := Y.cells
  obtain ⟨q0, q1⟩ := X.cells
  have f0 := X.frozen 0
  have f1 := X.frozen 1
  have e1 : w.heap.size + 1 ≠ w.heap.size := by omega
  clear hW
  go_wp2_with fail
  refine bodyPost_ret (v := .tuple #[.agg #[.int .i64 x, .int .i64 s], .int .i64 n, .int .i64 0]) (by simp [results, Try.results7, go_sem, q0, q1]) rfl ⟨rfl, ?_⟩
  exact (G.st (by simp) _).st (by simp) _
theorem Draw_is {n s a b m q : Int} (h : DrawIs n s a b m q) (hn : B64 n) (hs : B64 s) (w : World) :
    Calls Try.prog 7 #[.agg #[.int .i64 n, .int .i64 s]] w fun e w' => e = .returned (.tuple #[.agg #[.int .i64 a, .int .i64 b], .int .i64 m, .int .i64 q]) ∧ Gr w w' := by
  rcases h with ⟨h, rfl, rfl, rfl, rfl⟩ | ⟨h, ho, rfl, rfl, rfl, rfl⟩ | ⟨h, ho, rfl, rfl, rfl, rfl⟩
  · exact Draw_no h hn hs w
  · exact Draw_full h ho hn hs w
  · exact Draw_yes h ho rfl hn hs w

set_option maxHeartbeats 1000000 in
theorem Done_no {n s : Int} (h : tkB n s = false) (hn : B64 n) (hs : B64 s) (w : World) :
    Calls Try.prog 9 #[.agg #[.int .i64 n, .int .i64 s]] w fun e w' => e = .returned (.tuple #[.agg #[.int .i64 0, .int .i64 0], .int .i64 1]) ∧ Gr w w' := by
  have c1 := fun w => Lib.hid (Out_is (.inr ⟨h, rfl, rfl⟩) hn hs w)
  go_enter Try.func9, Try.ntmps9
  go_wp2_with fail
  refine (c1 _).out.mono ?_
  rintro e w1 ⟨rfl, hb1⟩
  have X := (Two.new (w.alloc (.cells #[.int .i64 n, .int .i64 s] 23)) 0 0).gr hb1
  have G := (((Gr.refl w).al _).al _).trans hb1
  obtain ⟨q0, q1⟩ := X.cells
  have f0 := X.frozen 0
  have f1 := X.frozen 1
  simp at q0 q1 f0 f1
  go_wp2_with fail
  refine bodyPost_ret (v := .tuple #[.agg #[.int .i64 0, .int .i64 0], .int .i64 1]) (by simp [results, Try.results9, go_sem, q0, q1]) rfl ⟨rfl, ?_⟩
  exact (G.st (by simp) _).st (by simp) _
set_option maxHeartbeats 1000000 in
theorem Done_none {n s : Int} (h : tkB n s = true) (ho : outT n s = 0) (hn : B64 n) (hs : B64 s) (w : World) :
    Calls Try.prog 9 #[.agg #[.int .i64 n, .int .i64 s]] w fun e w' => e = .returned (.tuple #[.agg #[.int .i64 0, .int .i64 0], .int .i64 6]) ∧ Gr w w' := by
  have c1 := fun w => Lib.hid (Out_is (.inl ⟨h, ho, rfl⟩) hn hs w)
  clear ho
  go_enter Try.func9, Try.ntmps9
  go_wp2_with fail
  refine (c1 _).out.mono ?_
  rintro e w1 ⟨rfl, hb1⟩
  have X := (Two.new (w.alloc (.cells #[.int .i64 n, .int .i64 s] 23)) 0 0).gr hb1
  have G := (((Gr.refl w).al _).al _).trans hb1
  obtain ⟨q0, q1⟩ := X.cells
  have f0 := X.frozen 0
  have f1 := X.frozen 1
  simp at q0 q1 f0 f1
  go_wp2_with fail
  refine bodyPost_ret (v := .tuple #[.agg #[.int .i64 0, .int .i64 0], .int .i64 6]) (by simp [results, Try.results9, go_sem, q0, q1]) rfl ⟨rfl, ?_⟩
  exact (G.st (by simp) _).st (by simp) _
set_option maxHeartbeats 1000000 in
theorem Done_yes {n s x : Int} (h : tkB n s = true) (ho : outT n s ≠ 0) (hx : up1 s = x) (hn : B64 n) (hs : B64 s) (w : World) :
    Calls Try.prog 9 #[.agg #[.int .i64 n, .int .i64 s]] w fun e w' => e = .returned (.tuple #[.agg #[.int .i64 n, .int .i64 x], .int .i64 0]) ∧ Gr w w' := by
  obtain ⟨v, hv⟩ : ∃ v, outT n s = v := ⟨_, rfl⟩
  rw [hv] at ho
  have hne : (v == 0) = false := beq_eq_false_iff_ne.2 ho
  have c1 := fun w => Lib.hid (Out_is (.inl ⟨h, hv, rfl⟩) hn hs w)
  have HX := Lib.hid hx
  clear ho hv hx
  go_enter Try.func9, Try.ntmps9
  go_wp2_with fail
  refine (c1 _).out.mono ?_
  rintro e w1 ⟨rfl, hb1⟩
  have X := (Two.new (w.alloc (.cells #[.int .i64 n, .int .i64 s] 23)) 0 0).gr hb1
  have Y := ((Two.new w n s).gr ((Gr.refl _).al (.cells #[.int .i64 0, .int .i64 0] 23))).gr hb1
  have G := (((Gr.refl w).al _).al _).trans hb1
  rw [show (w.alloc (.cells #[.int .i64 n, .int .i64 s] 23)).heap.size = w.heap.size + 1 from by simp] at X
  go_wp2_with fail
  refine (advance_is HX.out w.heap.size 1 _ Y.cells.2 (Y.frozen 1) Y.lt).mono ?_
  rintro e w2 ⟨rfl, w3, hb3, rfl⟩
  replace Y := (Y.gr hb3).set1 x
  replace X := (X.gr hb3).far (p := ⟨w.heap.size, 1, none⟩) (by simp) (.int .i64 x)
  replace G := (G.trans hb3).st (p := ⟨w.heap.size, 1, none⟩) (Nat.le_refl _) (.int .i64 x)
  generalize hW : w3.setCell ⟨w.heap.size, 1, none⟩ (.int .i64 x) = W at *
  obtain ⟨y0, y1⟩ := Y.cells
  obtain ⟨q0, q1⟩ := X.cells
  have f0 := X.frozen 0
  have f1 := X.frozen 1
  have e1 : w.heap.size + 1 ≠ w.heap.size := by omega
  clear hW
  go_wp2_with fail
  refine bodyPost_ret (v := .tuple #[.agg #[.int .i64 n, .int .i64 x], .int .i64 0]) (by simp [results, Try.results9, go_sem, q0, q1]) rfl ⟨rfl, ?_⟩
  exact (G.st (by simp) _).st (by simp) _
theorem Done_is {n s a b q : Int} (h : DoneIs n s a b q) (hn : B64 n) (hs : B64 s) (w : World) :
    Calls Try.prog 9 #[.agg #[.int .i64 n, .int .i64 s]] w fun e w' => e = .returned (.tuple #[.agg #[.int .i64 a, .int .i64 b], .int .i64 q]) ∧ Gr w w' := by
  rcases h with ⟨h, rfl, rfl, rfl⟩ | ⟨h, ho, rfl, rfl, rfl⟩ | ⟨h, ho, rfl, rfl, rfl⟩
  · exact Done_no h hn hs w
  · exact Done_none h ho hn hs w
  · exact Done_yes h ho rfl hn hs w

set_option maxHeartbeats 1000000 in
theorem alive6_ok (w : World) : Calls Try.prog 13 #[] w fun e w' => e = .returned (.bool true) ∧ Gr w w' := by
  have c1 := fun w => Lib.hid (Out_is (n := 0) (s := 4294967295) (v := 1) (q := 0) (.inl ⟨by decide +kernel, by decide +kernel, rfl⟩) (by unfold B64; omega) (by unfold B64; omega) w)
  have c2 := fun w => Lib.hid (Done_is (n := 0) (s := 4294967295) (a := 0) (b := 0) (q := 0) (.inr (.inr ⟨by decide +kernel, by decide +kernel, rfl, by decide +kernel, rfl⟩)) (by unfold B64; omega) (by unfold B64; omega) w)
  go_enter Try.func13, Try.ntmps13
  go_wp2_with fail
  refine (c1 _).out.mono ?_
  rintro e w1 ⟨rfl, hb1⟩
  go_wp2_with fail
  refine (c2 _).out.mono ?_
  rintro e w2 ⟨rfl, hb2⟩
  go_wp2_with fail
  go_ret
  exact ⟨rfl, (hb1.trans hb2).al _⟩
end Go.Proofs.Ytibbndoohpfbmaa
