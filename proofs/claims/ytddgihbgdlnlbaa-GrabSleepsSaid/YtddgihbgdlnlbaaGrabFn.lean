/-
  Package grab: what Right, Fresh, Wakes, Wants, Got, Handed and Spins answer.
-/
import Derived.Test.YtddgihbgdlnlbaaGrabWant
import Derived.Test.YtddgihbgdlnlbaaGrabNo
namespace Go.Proofs.Ytddgihbgdlnlbaa
open Go.ChangeShapes Go.WideShapes Go.ChangeAt Go.RowKit Go.Shelf
set_option linter.unusedVariables false
set_option linter.unusedSimpArgs false

namespace P14
open P3 (fl pw)
open P4 (Tm)

section
variable {s r : Int} {t k a b c : Bool} {n u o x : Int} {w : World}
set_option maxHeartbeats 1000000 in
theorem Wants_cl {W : World} {g : Nat} (B : Blk W g #[.int .i64 s, .bool t, .bool k, .int .i64 r, .int .i64 o] 23)
    (hc : ∀ W, Calls Try.prog 40 #[ov s t k r o] W fun e w' => e = .returned (.int .i64 x) ∧ Gr W w') :
    Calls Try.prog 39 #[.pointer (some ⟨g, 0, none⟩)] W fun e w' => e = .returned (.int .i64 x) ∧ Gr W w' := by
  have HC := fun W => Lib.hid (hc W)
  obtain ⟨⟨q0, q1, q2, q3, q4⟩, -⟩ := own_cells B
  clear hc B
  go_enter Try.func39, Try.ntmps39
  go_wp2_with fail
  with_reducible refine (HC _).out.mono ?_
  rintro e w1 ⟨rfl, g1⟩
  go_wp2_with fail
  go_ret
  exact ⟨rfl, g1⟩
set_option maxHeartbeats 1000000 in
theorem Wants_up {W : World} {g : Nat} {y : Int} (B : Blk W g #[.int .i64 s, .bool t, .bool k, .int .i64 r, .int .i64 o] 23)
    (hc : ∀ W, Calls Try.prog 40 #[ov s t k r o] W fun e w' => e = .panicked (pan y) ∧ Gr W w') :
    Calls Try.prog 39 #[.pointer (some ⟨g, 0, none⟩)] W fun e w' => e = .panicked (pan y) ∧ Gr W w' := by
  have HC := fun W => Lib.hid (hc W)
  obtain ⟨⟨q0, q1, q2, q3, q4⟩, -⟩ := own_cells B
  clear hc B
  go_enter Try.func39, Try.ntmps39
  go_wp2_with fail
  with_reducible refine (HC _).out.mono ?_
  rintro e w1 ⟨rfl, g1⟩
  go_wp2_with fail
  exact ⟨rfl, rfl, g1⟩
set_option maxHeartbeats 1000000 in
theorem Wants_ok (hc : ∀ W, Calls Try.prog 40 #[ov s t k r o] W fun e w' => e = .returned (.int .i64 x) ∧ Gr W w') :
    Calls Try.prog 10 #[ov s t k r o] w fun e w' => e = .returned (.tuple #[.int .i64 x, .int .i64 0]) ∧ Gr w w' := by
  have N0 := Blk.new w #[.int .i64 s, .bool t, .bool k, .int .i64 r, .int .i64 o] 23
  have T := Lib.hid (toldI_ok (F := 39) (caps := #[.pointer (some ⟨w.heap.size, 0, none⟩)]) (w := w.alloc (.cells #[.int .i64 s, .bool t, .bool k, .int .i64 r, .int .i64 o] 23)) (enters_of Try.func39 (by kernel_rfl) rfl) x (fun W G => Wants_cl (N0.gr G) hc))
  have G0 := (Gr.refl w).al (.cells #[.int .i64 s, .bool t, .bool k, .int .i64 r, .int .i64 o] 23)
  clear hc N0
  have hmf : ∀ (fn : Fn) (first cap : Array Value) (w : World), (Instr.makeFunc fn first cap).run Try.prog w = .ok (.func fn first cap) w := fun _ _ _ _ => rfl
  go_enter Try.func10, Try.ntmps10
  go_wp2_with fail
  with_reducible refine T.out.mono ?_
  rintro e w1 ⟨rfl, g1⟩
  go_wp2_with fail
  go_ret2
  exact ⟨rfl, G0.trans g1⟩
set_option maxHeartbeats 1000000 in
theorem Wants_no {y : Int} (hc : ∀ W, Calls Try.prog 40 #[ov s t k r o] W fun e w' => e = .panicked (pan y) ∧ Gr W w') :
    Calls Try.prog 10 #[ov s t k r o] w fun e w' => e = .returned (.tuple #[.int .i64 0, .int .i64 y]) ∧ Gr w w' := by
  have N0 := Blk.new w #[.int .i64 s, .bool t, .bool k, .int .i64 r, .int .i64 o] 23
  have T := Lib.hid (toldI_no (F := 39) (caps := #[.pointer (some ⟨w.heap.size, 0, none⟩)]) (w := w.alloc (.cells #[.int .i64 s, .bool t, .bool k, .int .i64 r, .int .i64 o] 23)) (enters_of Try.func39 (by kernel_rfl) rfl) y (fun W G => Wants_up (N0.gr G) hc))
  have G0 := (Gr.refl w).al (.cells #[.int .i64 s, .bool t, .bool k, .int .i64 r, .int .i64 o] 23)
  clear hc N0
  have hmf : ∀ (fn : Fn) (first cap : Array Value) (w : World), (Instr.makeFunc fn first cap).run Try.prog w = .ok (.func fn first cap) w := fun _ _ _ _ => rfl
  go_enter Try.func10, Try.ntmps10
  go_wp2_with fail
  with_reducible refine T.out.mono ?_
  rintro e w1 ⟨rfl, g1⟩
  go_wp2_with fail
  go_ret2
  exact ⟨rfl, G0.trans g1⟩
set_option maxHeartbeats 1000000 in
theorem Handed_cl {W : World} {g : Nat} (B : Blk W g #[.int .i64 s, .bool t, .bool k, .int .i64 r, .int .i64 o] 23)
    (hc : ∀ W, Calls Try.prog 43 #[ov s t k r o] W fun e w' => e = .returned (.int .i64 x) ∧ Gr W w') :
    Calls Try.prog 42 #[.pointer (some ⟨g, 0, none⟩)] W fun e w' => e = .returned (.int .i64 x) ∧ Gr W w' := by
  have HC := fun W => Lib.hid (hc W)
  obtain ⟨⟨q0, q1, q2, q3, q4⟩, -⟩ := own_cells B
  clear hc B
  go_enter Try.func42, Try.ntmps42
  go_wp2_with fail
  with_reducible refine (HC _).out.mono ?_
  rintro e w1 ⟨rfl, g1⟩
  go_wp2_with fail
  go_ret
  exact ⟨rfl, g1⟩
set_option maxHeartbeats 1000000 in
theorem Handed_up {W : World} {g : Nat} {y : Int} (B : Blk W g #[.int .i64 s, .bool t, .bool k, .int .i64 r, .int .i64 o] 23)
    (hc : ∀ W, Calls Try.prog 43 #[ov s t k r o] W fun e w' => e = .panicked (pan y) ∧ Gr W w') :
    Calls Try.prog 42 #[.pointer (some ⟨g, 0, none⟩)] W fun e w' => e = .panicked (pan y) ∧ Gr W w' := by
  have HC := fun W => Lib.hid (hc W)
  obtain ⟨⟨q0, q1, q2, q3, q4⟩, -⟩ := own_cells B
  clear hc B
  go_enter Try.func42, Try.ntmps42
  go_wp2_with fail
  with_reducible refine (HC _).out.mono ?_
  rintro e w1 ⟨rfl, g1⟩
  go_wp2_with fail
  exact ⟨rfl, rfl, g1⟩
set_option maxHeartbeats 1000000 in
theorem Handed_ok (hc : ∀ W, Calls Try.prog 43 #[ov s t k r o] W fun e w' => e = .returned (.int .i64 x) ∧ Gr W w') :
    Calls Try.prog 12 #[ov s t k r o] w fun e w' => e = .returned (.tuple #[.int .i64 x, .int .i64 0]) ∧ Gr w w' := by
  have N0 := Blk.new w #[.int .i64 s, .bool t, .bool k, .int .i64 r, .int .i64 o] 23
  have T := Lib.hid (toldI_ok (F := 42) (caps := #[.pointer (some ⟨w.heap.size, 0, none⟩)]) (w := w.alloc (.cells #[.int .i64 s, .bool t, .bool k, .int .i64 r, .int .i64 o] 23)) (enters_of Try.func42 (by kernel_rfl) rfl) x (fun W G => Handed_cl (N0.gr G) hc))
  have G0 := (Gr.refl w).al (.cells #[.int .i64 s, .bool t, .bool k, .int .i64 r, .int .i64 o] 23)
  clear hc N0
  have hmf : ∀ (fn : Fn) (first cap : Array Value) (w : World), (Instr.makeFunc fn first cap).run Try.prog w = .ok (.func fn first cap) w := fun _ _ _ _ => rfl
  go_enter Try.func12, Try.ntmps12
  go_wp2_with fail
  with_reducible refine T.out.mono ?_
  rintro e w1 ⟨rfl, g1⟩
  go_wp2_with fail
  go_ret2
  exact ⟨rfl, G0.trans g1⟩
set_option maxHeartbeats 1000000 in
theorem Handed_no {y : Int} (hc : ∀ W, Calls Try.prog 43 #[ov s t k r o] W fun e w' => e = .panicked (pan y) ∧ Gr W w') :
    Calls Try.prog 12 #[ov s t k r o] w fun e w' => e = .returned (.tuple #[.int .i64 0, .int .i64 y]) ∧ Gr w w' := by
  have N0 := Blk.new w #[.int .i64 s, .bool t, .bool k, .int .i64 r, .int .i64 o] 23
  have T := Lib.hid (toldI_no (F := 42) (caps := #[.pointer (some ⟨w.heap.size, 0, none⟩)]) (w := w.alloc (.cells #[.int .i64 s, .bool t, .bool k, .int .i64 r, .int .i64 o] 23)) (enters_of Try.func42 (by kernel_rfl) rfl) y (fun W G => Handed_up (N0.gr G) hc))
  have G0 := (Gr.refl w).al (.cells #[.int .i64 s, .bool t, .bool k, .int .i64 r, .int .i64 o] 23)
  clear hc N0
  have hmf : ∀ (fn : Fn) (first cap : Array Value) (w : World), (Instr.makeFunc fn first cap).run Try.prog w = .ok (.func fn first cap) w := fun _ _ _ _ => rfl
  go_enter Try.func12, Try.ntmps12
  go_wp2_with fail
  with_reducible refine T.out.mono ?_
  rintro e w1 ⟨rfl, g1⟩
  go_wp2_with fail
  go_ret2
  exact ⟨rfl, G0.trans g1⟩
set_option maxHeartbeats 2000000 in
theorem Got_cl {W : World} {g : Nat} (B : Blk W g #[.int .i64 s, .bool t, .bool k, .int .i64 r, .int .i64 o] 23)
    (hc : ∀ W, Calls Try.prog 33 #[ov s t k r o] W fun e w' => e = .returned (fl a b c n) ∧ Gr W w') :
    Calls Try.prog 41 #[.pointer (some ⟨g, 0, none⟩)] W fun e w' => e = .returned (.bool (!a && !c)) ∧ Gr W w' := by
  have HC := fun W => Lib.hid (hc W)
  obtain ⟨⟨q0, q1, q2, q3, q4⟩, -⟩ := own_cells B
  have HD := fun w => Lib.hid (held_is a b c n w)
  have hq : hEq a c false false = (!a && !c) := by cases a <;> cases c <;> rfl
  have HE := fun w => hq ▸ run_hold_eql a c false false w
  generalize (!a && !c) = v at *
  clear hc B hq
  go_enter Try.func41, Try.ntmps41
  go_wp2_with fail
  with_reducible refine (HC _).out.mono ?_
  rintro e w1 ⟨rfl, g1⟩
  go_wp2_with fail
  with_reducible refine (HD _).out.mono ?_
  rintro e w2 ⟨rfl, g2⟩
  go_wp2_with fail
  go_ret
  exact ⟨rfl, g1.trans g2⟩
set_option maxHeartbeats 2000000 in
theorem Got_up {W : World} {g : Nat} {y : Int} (B : Blk W g #[.int .i64 s, .bool t, .bool k, .int .i64 r, .int .i64 o] 23)
    (hc : ∀ W, Calls Try.prog 33 #[ov s t k r o] W fun e w' => e = .panicked (pan y) ∧ Gr W w') :
    Calls Try.prog 41 #[.pointer (some ⟨g, 0, none⟩)] W fun e w' => e = .panicked (pan y) ∧ Gr W w' := by
  have HC := fun W => Lib.hid (hc W)
  obtain ⟨⟨q0, q1, q2, q3, q4⟩, -⟩ := own_cells B
  clear hc B
  go_enter Try.func41, Try.ntmps41
  go_wp2_with fail
  with_reducible refine (HC _).out.mono ?_
  rintro e w1 ⟨rfl, g1⟩
  go_wp2_with fail
  exact ⟨rfl, rfl, g1⟩
set_option maxHeartbeats 1000000 in
theorem Got_ok (hc : ∀ W, Calls Try.prog 33 #[ov s t k r o] W fun e w' => e = .returned (fl a b c n) ∧ Gr W w') :
    Calls Try.prog 11 #[ov s t k r o] w fun e w' => e = .returned (.tuple #[.bool (!a && !c), .int .i64 0]) ∧ Gr w w' := by
  have N0 := Blk.new w #[.int .i64 s, .bool t, .bool k, .int .i64 r, .int .i64 o] 23
  have T := Lib.hid (toldB_ok (F := 41) (caps := #[.pointer (some ⟨w.heap.size, 0, none⟩)]) (w := w.alloc (.cells #[.int .i64 s, .bool t, .bool k, .int .i64 r, .int .i64 o] 23)) (enters_of Try.func41 (by kernel_rfl) rfl) (!a && !c) (fun W G => Got_cl (N0.gr G) hc))
  have G0 := (Gr.refl w).al (.cells #[.int .i64 s, .bool t, .bool k, .int .i64 r, .int .i64 o] 23)
  clear hc N0
  have hmf : ∀ (fn : Fn) (first cap : Array Value) (w : World), (Instr.makeFunc fn first cap).run Try.prog w = .ok (.func fn first cap) w := fun _ _ _ _ => rfl
  go_enter Try.func11, Try.ntmps11
  go_wp2_with fail
  with_reducible refine T.out.mono ?_
  rintro e w1 ⟨rfl, g1⟩
  go_wp2_with fail
  go_ret2
  exact ⟨rfl, G0.trans g1⟩
set_option maxHeartbeats 1000000 in
theorem Got_no {y : Int} (hc : ∀ W, Calls Try.prog 33 #[ov s t k r o] W fun e w' => e = .panicked (pan y) ∧ Gr W w') :
    Calls Try.prog 11 #[ov s t k r o] w fun e w' => e = .returned (.tuple #[.bool false, .int .i64 y]) ∧ Gr w w' := by
  have N0 := Blk.new w #[.int .i64 s, .bool t, .bool k, .int .i64 r, .int .i64 o] 23
  have T := Lib.hid (toldB_no (F := 41) (caps := #[.pointer (some ⟨w.heap.size, 0, none⟩)]) (w := w.alloc (.cells #[.int .i64 s, .bool t, .bool k, .int .i64 r, .int .i64 o] 23)) (enters_of Try.func41 (by kernel_rfl) rfl) y (fun W G => Got_up (N0.gr G) hc))
  have G0 := (Gr.refl w).al (.cells #[.int .i64 s, .bool t, .bool k, .int .i64 r, .int .i64 o] 23)
  clear hc N0
  have hmf : ∀ (fn : Fn) (first cap : Array Value) (w : World), (Instr.makeFunc fn first cap).run Try.prog w = .ok (.func fn first cap) w := fun _ _ _ _ => rfl
  go_enter Try.func11, Try.ntmps11
  go_wp2_with fail
  with_reducible refine T.out.mono ?_
  rintro e w1 ⟨rfl, g1⟩
  go_wp2_with fail
  go_ret2
  exact ⟨rfl, G0.trans g1⟩
set_option maxHeartbeats 2000000 in
theorem Wakes_cl {W : World} {g : Nat} (B : Blk W g #[.int .i64 s, .bool t, .bool k, .int .i64 r, .int .i64 o] 23)
    (hc : ∀ W, Calls Try.prog 33 #[ov s t k r o] W fun e w' => e = .returned (fl a b c n) ∧ Gr W w') :
    Calls Try.prog 37 #[.pointer (some ⟨g, 0, none⟩)] W fun e w' => e = .returned (.bool (!k && !b && decide (0 < n))) ∧ Gr W w' := by
  have HC := fun W => Lib.hid (hc W)
  obtain ⟨⟨q0, q1, q2, q3, q4⟩, -⟩ := own_cells B
  have B := Lib.hid B
  clear hc
  cases k <;> cases b
  all_goals (
    go_enter Try.func37, Try.ntmps37
    go_wp2_with fail
    with_reducible refine (HC _).out.mono ?_
    rintro e w1 ⟨rfl, g1⟩
    have hlt := (B.out.gr g1).lt
    obtain ⟨p2, -⟩ := (B.out.gr g1).at_ (k := 2) rfl
    go_wp2_with fail
    go_ret
    exact ⟨by simp, g1.al _⟩)
set_option maxHeartbeats 2000000 in
theorem Wakes_up {W : World} {g : Nat} {y : Int} (B : Blk W g #[.int .i64 s, .bool t, .bool k, .int .i64 r, .int .i64 o] 23)
    (hc : ∀ W, Calls Try.prog 33 #[ov s t k r o] W fun e w' => e = .panicked (pan y) ∧ Gr W w') :
    Calls Try.prog 37 #[.pointer (some ⟨g, 0, none⟩)] W fun e w' => e = .panicked (pan y) ∧ Gr W w' := by
  have HC := fun W => Lib.hid (hc W)
  obtain ⟨⟨q0, q1, q2, q3, q4⟩, -⟩ := own_cells B
  clear hc B
  go_enter Try.func37, Try.ntmps37
  go_wp2_with fail
  with_reducible refine (HC _).out.mono ?_
  rintro e w1 ⟨rfl, g1⟩
  go_wp2_with fail
  exact ⟨rfl, rfl, g1⟩
set_option maxHeartbeats 1000000 in
theorem Wakes_ok (hc : ∀ W, Calls Try.prog 33 #[ov s t k r o] W fun e w' => e = .returned (fl a b c n) ∧ Gr W w') :
    Calls Try.prog 9 #[ov s t k r o] w fun e w' => e = .returned (.tuple #[.bool (!k && !b && decide (0 < n)), .int .i64 0]) ∧ Gr w w' := by
  have N0 := Blk.new w #[.int .i64 s, .bool t, .bool k, .int .i64 r, .int .i64 o] 23
  have T := Lib.hid (toldB_ok (F := 37) (caps := #[.pointer (some ⟨w.heap.size, 0, none⟩)]) (w := w.alloc (.cells #[.int .i64 s, .bool t, .bool k, .int .i64 r, .int .i64 o] 23)) (enters_of Try.func37 (by kernel_rfl) rfl) (!k && !b && decide (0 < n)) (fun W G => Wakes_cl (N0.gr G) hc))
  have G0 := (Gr.refl w).al (.cells #[.int .i64 s, .bool t, .bool k, .int .i64 r, .int .i64 o] 23)
  clear hc N0
  have hmf : ∀ (fn : Fn) (first cap : Array Value) (w : World), (Instr.makeFunc fn first cap).run Try.prog w = .ok (.func fn first cap) w := fun _ _ _ _ => rfl
  go_enter Try.func9, Try.ntmps9
  go_wp2_with fail
  with_reducible refine T.out.mono ?_
  rintro e w1 ⟨rfl, g1⟩
  go_wp2_with fail
  go_ret2
  exact ⟨rfl, G0.trans g1⟩
set_option maxHeartbeats 1000000 in
theorem Wakes_no {y : Int} (hc : ∀ W, Calls Try.prog 33 #[ov s t k r o] W fun e w' => e = .panicked (pan y) ∧ Gr W w') :
    Calls Try.prog 9 #[ov s t k r o] w fun e w' => e = .returned (.tuple #[.bool false, .int .i64 y]) ∧ Gr w w' := by
  have N0 := Blk.new w #[.int .i64 s, .bool t, .bool k, .int .i64 r, .int .i64 o] 23
  have T := Lib.hid (toldB_no (F := 37) (caps := #[.pointer (some ⟨w.heap.size, 0, none⟩)]) (w := w.alloc (.cells #[.int .i64 s, .bool t, .bool k, .int .i64 r, .int .i64 o] 23)) (enters_of Try.func37 (by kernel_rfl) rfl) y (fun W G => Wakes_up (N0.gr G) hc))
  have G0 := (Gr.refl w).al (.cells #[.int .i64 s, .bool t, .bool k, .int .i64 r, .int .i64 o] 23)
  clear hc N0
  have hmf : ∀ (fn : Fn) (first cap : Array Value) (w : World), (Instr.makeFunc fn first cap).run Try.prog w = .ok (.func fn first cap) w := fun _ _ _ _ => rfl
  go_enter Try.func9, Try.ntmps9
  go_wp2_with fail
  with_reducible refine T.out.mono ?_
  rintro e w1 ⟨rfl, g1⟩
  go_wp2_with fail
  go_ret2
  exact ⟨rfl, G0.trans g1⟩
end
end P14
end Go.Proofs.Ytddgihbgdlnlbaa
