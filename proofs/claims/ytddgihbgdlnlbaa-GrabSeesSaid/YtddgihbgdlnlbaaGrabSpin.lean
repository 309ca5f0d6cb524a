/-
  Package grab: what Right, Fresh and Spins answer.
-/
import Derived.Test.YtddgihbgdlnlbaaGrabLook
namespace Go.Proofs.Ytddgihbgdlnlbaa
open Go.ChangeShapes Go.WideShapes Go.ChangeAt Go.RowKit Go.Shelf
set_option linter.unusedVariables false
set_option linter.unusedSimpArgs false

namespace P14
open P3 (fl pw)
open P4 (Tm)

section
variable {s r : Int} {t k a b c : Bool} {n u o x : Int} {w : World}
set_option maxHeartbeats 2000000 in
theorem Right_cl {W : World} {g : Nat} (B : Blk W g #[.int .i64 s, .bool t, .bool k, .int .i64 r, .int .i64 o] 23) (hc : ∀ W, Calls Try.prog 33 #[ov s t k r o] W fun e w' => e = .returned (fl a b c n) ∧ Gr W w') :
    Calls Try.prog 45 #[.pointer (some ⟨g, 0, none⟩)] W fun e w' => e = .returned (fl a b c n) ∧ Gr W w' := by
  have HC := fun W => Lib.hid (hc W)
  have hlt := B.lt
  obtain ⟨⟨q0, q1, q2, q3, q4⟩, -⟩ := own_cells B
  have N1 := Lib.hid (Blk.new W #[.bool false, .bool false, .bool false, .int .i64 0] 43)
  have G0 := Lib.hid ((Gr.refl W).al (.cells #[.bool false, .bool false, .bool false, .int .i64 0] 43))
  clear hc B
  go_enter Try.func45, Try.ntmps45
  go_wp2_with fail
  with_reducible refine (HC _).out.mono ?_
  rintro e w1 ⟨rfl, g1⟩
  have B1 := N1.out.gr g1
  have G := G0.out.trans g1
  obtain ⟨a0, y0⟩ := B1.at_ (k := 0) (v := .bool false) rfl
  obtain ⟨a1, y1⟩ := B1.at_ (k := 1) (v := .bool false) rfl
  obtain ⟨a2, y2⟩ := B1.at_ (k := 2) (v := .bool false) rfl
  obtain ⟨a3, y3⟩ := B1.at_ (k := 3) (v := .int .i64 0) rfl
  have BF := (((B1.set 0 (.bool a)).set 1 (.bool b)).set 2 (.bool c)).set 3 (.int .i64 n)
  have GF := Lib.hid ((((G.st (p := ⟨W.heap.size, 0, none⟩) (Nat.le_refl _) (.bool a)).st (p := ⟨W.heap.size, 1, none⟩) (Nat.le_refl _) (.bool b)).st (p := ⟨W.heap.size, 2, none⟩) (Nat.le_refl _) (.bool c)).st (p := ⟨W.heap.size, 3, none⟩) (Nat.le_refl _) (.int .i64 n))
  obtain ⟨c0, x0⟩ := BF.at_ (k := 0) (v := .bool a) rfl
  obtain ⟨c1, x1⟩ := BF.at_ (k := 1) (v := .bool b) rfl
  obtain ⟨c2, x2⟩ := BF.at_ (k := 2) (v := .bool c) rfl
  obtain ⟨c3, x3⟩ := BF.at_ (k := 3) (v := .int .i64 n) rfl
  clear g1 B1 BF G
  go_wp2_with fail
  exact bodyPost_ret (v := fl a b c n) (by simp [results, Try.results45, go_sem, c0, c1, c2, c3]) rfl ⟨rfl, GF.out⟩
set_option maxHeartbeats 2000000 in
theorem Right_up {W : World} {g : Nat} {y : Int} (B : Blk W g #[.int .i64 s, .bool t, .bool k, .int .i64 r, .int .i64 o] 23) (hc : ∀ W, Calls Try.prog 33 #[ov s t k r o] W fun e w' => e = .panicked (pan y) ∧ Gr W w') :
    Calls Try.prog 45 #[.pointer (some ⟨g, 0, none⟩)] W fun e w' => e = .panicked (pan y) ∧ Gr W w' := by
  have HC := fun W => Lib.hid (hc W)
  have hlt := B.lt
  obtain ⟨⟨q0, q1, q2, q3, q4⟩, -⟩ := own_cells B
  have G0 := Lib.hid ((Gr.refl W).al (.cells #[.bool false, .bool false, .bool false, .int .i64 0] 43))
  clear hc B
  go_enter Try.func45, Try.ntmps45
  go_wp2_with fail
  with_reducible refine (HC _).out.mono ?_
  rintro e w1 ⟨rfl, g1⟩
  go_wp2_with fail
  exact ⟨rfl, rfl, G0.out.trans g1⟩
set_option maxHeartbeats 1000000 in
theorem Right_yes (hc : ∀ W, Calls Try.prog 33 #[ov s t k r o] W fun e w' => e = .returned (fl a b c n) ∧ Gr W w') :
    Calls Try.prog 13 #[ov s t k r o] w fun e w' => e = .returned (.bool true) ∧ Gr w w' := by
  have N0 := Blk.new w #[.int .i64 s, .bool t, .bool k, .int .i64 r, .int .i64 o] 23
  have T := Lib.hid (toldF_ok (F := 45) (caps := #[.pointer (some ⟨w.heap.size, 0, none⟩)]) (w := w.alloc (.cells #[.int .i64 s, .bool t, .bool k, .int .i64 r, .int .i64 o] 23)) (enters_of Try.func45 (by kernel_rfl) rfl) a b c n (fun W G => Right_cl (N0.gr G) hc))
  have G0 := (Gr.refl w).al (.cells #[.int .i64 s, .bool t, .bool k, .int .i64 r, .int .i64 o] 23)
  clear hc N0
  have hmf : ∀ (fn : Fn) (first cap : Array Value) (w : World), (Instr.makeFunc fn first cap).run Try.prog w = .ok (.func fn first cap) w := fun _ _ _ _ => rfl
  go_enter Try.func13, Try.ntmps13
  go_wp2_with fail
  with_reducible refine T.out.mono ?_
  rintro e w1 ⟨rfl, g1⟩
  go_wp2_with fail
  go_ret
  exact ⟨rfl, (G0.trans g1).al _⟩
set_option maxHeartbeats 1000000 in
theorem Right_no {y : Int} (hy : (y == 0) = false) (hc : ∀ W, Calls Try.prog 33 #[ov s t k r o] W fun e w' => e = .panicked (pan y) ∧ Gr W w') :
    Calls Try.prog 13 #[ov s t k r o] w fun e w' => e = .returned (.bool false) ∧ Gr w w' := by
  have N0 := Blk.new w #[.int .i64 s, .bool t, .bool k, .int .i64 r, .int .i64 o] 23
  have T := Lib.hid (toldF_no (F := 45) (caps := #[.pointer (some ⟨w.heap.size, 0, none⟩)]) (w := w.alloc (.cells #[.int .i64 s, .bool t, .bool k, .int .i64 r, .int .i64 o] 23)) (enters_of Try.func45 (by kernel_rfl) rfl) y (fun W G => Right_up (N0.gr G) hc))
  have G0 := (Gr.refl w).al (.cells #[.int .i64 s, .bool t, .bool k, .int .i64 r, .int .i64 o] 23)
  clear hc N0
  have hmf : ∀ (fn : Fn) (first cap : Array Value) (w : World), (Instr.makeFunc fn first cap).run Try.prog w = .ok (.func fn first cap) w := fun _ _ _ _ => rfl
  go_enter Try.func13, Try.ntmps13
  go_wp2_with fail
  with_reducible refine T.out.mono ?_
  rintro e w1 ⟨rfl, g1⟩
  go_wp2_with fail
  go_ret
  exact ⟨rfl, (G0.trans g1).al _⟩
set_option maxHeartbeats 1000000 in
theorem Fresh_is : Calls Try.prog 15 #[] w fun e w' => e = .returned (ov (-1) false false 0 0) ∧ Gr w w' := by
  go_enter Try.func15, Try.ntmps15
  go_wp2_with fail
  exact bodyPost_ret (v := ov (-1) false false 0 0) (by simp [results, Try.results15, go_sem]) rfl ⟨rfl, (Gr.refl w).al _⟩
set_option maxHeartbeats 2000000 in
theorem Spins_no {W : World} {g h : Nat} (B : Blk W g #[.int .i64 s, .bool t, .bool k, .int .i64 r, .int .i64 o] 23) (D : Blk W h #[.int .i64 u] 3) (hc : ∀ W, Calls Try.prog 33 #[ov s t k r o] W fun e w' => e = .returned (fl a b c n) ∧ Gr W w') (hcan : ∀ W, Calls Try.prog 35 #[.int .i64 r, .int .i64 u] W fun e w' => e = .returned (.tuple #[.bool false, .int .i64 0]) ∧ w' = W) :
    Calls Try.prog 32 #[.pointer (some ⟨g, 0, none⟩), .pointer (some ⟨h, 0, none⟩)] W fun e w' => e = .returned (.bool false) ∧ Gr W w' := by
  have HC := fun W => Lib.hid (hc W)
  obtain ⟨⟨q0, q1, q2, q3, q4⟩, -⟩ := own_cells B
  have HCAN := fun W => Lib.hid (hcan W)
  clear hc hcan
  go_enter Try.func32, Try.ntmps32
  go_wp2_with fail
  with_reducible refine (HC _).out.mono ?_
  rintro e w1 ⟨rfl, g1⟩
  have hlt := (B.gr g1).lt
  have hlt2 := (D.gr g1).lt
  obtain ⟨p3, -⟩ := (B.gr g1).at_ (k := 3) rfl
  obtain ⟨d0, -⟩ := (D.gr g1).at_ (k := 0) rfl
  clear q0 q1 q2 q3 q4
  go_wp2_with fail
  with_reducible refine (HCAN _).out.mono ?_
  rintro e w2 ⟨rfl, rfl⟩
  go_wp2_with fail
  with_reducible refine (sureB_yes _ _).mono ?_
  rintro e w3 ⟨rfl, rfl⟩
  go_wp2_with fail
  go_ret
  exact ⟨rfl, g1.al _⟩
set_option maxHeartbeats 2000000 in
theorem Spins_yes {W : World} {g h : Nat} (B : Blk W g #[.int .i64 s, .bool t, .bool k, .int .i64 r, .int .i64 o] 23) (D : Blk W h #[.int .i64 u] 3) (hc : ∀ W, Calls Try.prog 33 #[ov s t k r o] W fun e w' => e = .returned (fl a b c n) ∧ Gr W w') (hcan : ∀ W, Calls Try.prog 35 #[.int .i64 r, .int .i64 u] W fun e w' => e = .returned (.tuple #[.bool true, .int .i64 0]) ∧ w' = W) :
    Calls Try.prog 32 #[.pointer (some ⟨g, 0, none⟩), .pointer (some ⟨h, 0, none⟩)] W fun e w' => e = .returned (.bool (a && !c)) ∧ Gr W w' := by
  have HC := fun W => Lib.hid (hc W)
  obtain ⟨⟨q0, q1, q2, q3, q4⟩, -⟩ := own_cells B
  have HCAN := fun W => Lib.hid (hcan W)
  clear hc hcan
  have HD := fun w => Lib.hid (held_is a b c n w)
  have hq : hEq a c true false = (a && !c) := by cases a <;> cases c <;> rfl
  have HE := fun w => hq ▸ run_hold_eql a c true false w
  generalize (a && !c) = v at *
  clear hq
  go_enter Try.func32, Try.ntmps32
  go_wp2_with fail
  with_reducible refine (HC _).out.mono ?_
  rintro e w1 ⟨rfl, g1⟩
  have hlt := (B.gr g1).lt
  have hlt2 := (D.gr g1).lt
  obtain ⟨p3, -⟩ := (B.gr g1).at_ (k := 3) rfl
  obtain ⟨d0, -⟩ := (D.gr g1).at_ (k := 0) rfl
  clear q0 q1 q2 q3 q4
  go_wp2_with fail
  with_reducible refine (HCAN _).out.mono ?_
  rintro e w2 ⟨rfl, rfl⟩
  go_wp2_with fail
  with_reducible refine (sureB_yes _ _).mono ?_
  rintro e w3 ⟨rfl, rfl⟩
  go_wp2_with fail
  with_reducible refine (HD _).out.mono ?_
  rintro e w4 ⟨rfl, g4⟩
  go_wp2_with fail
  go_ret
  exact ⟨rfl, (g1.al _).trans g4⟩
set_option maxHeartbeats 2000000 in
theorem Spins_bad {W : World} {g h : Nat} (B : Blk W g #[.int .i64 s, .bool t, .bool k, .int .i64 r, .int .i64 o] 23) (D : Blk W h #[.int .i64 u] 3) (hc : ∀ W, Calls Try.prog 33 #[ov s t k r o] W fun e w' => e = .returned (fl a b c n) ∧ Gr W w') (hcan : ∀ W, Calls Try.prog 35 #[.int .i64 r, .int .i64 u] W fun e w' => e = .returned (.tuple #[.bool false, .int .i64 1]) ∧ w' = W) :
    Calls Try.prog 32 #[.pointer (some ⟨g, 0, none⟩), .pointer (some ⟨h, 0, none⟩)] W fun e w' => e = .panicked (pan 1) ∧ Gr W w' := by
  have HC := fun W => Lib.hid (hc W)
  obtain ⟨⟨q0, q1, q2, q3, q4⟩, -⟩ := own_cells B
  have HCAN := fun W => Lib.hid (hcan W)
  clear hc hcan
  go_enter Try.func32, Try.ntmps32
  go_wp2_with fail
  with_reducible refine (HC _).out.mono ?_
  rintro e w1 ⟨rfl, g1⟩
  have hlt := (B.gr g1).lt
  have hlt2 := (D.gr g1).lt
  obtain ⟨p3, -⟩ := (B.gr g1).at_ (k := 3) rfl
  obtain ⟨d0, -⟩ := (D.gr g1).at_ (k := 0) rfl
  clear q0 q1 q2 q3 q4
  go_wp2_with fail
  with_reducible refine (HCAN _).out.mono ?_
  rintro e w2 ⟨rfl, rfl⟩
  go_wp2_with fail
  with_reducible refine (sureB_no _ rfl _).mono ?_
  rintro e w3 ⟨rfl, rfl⟩
  go_wp2_with fail
  exact ⟨rfl, rfl, g1.al _⟩
set_option maxHeartbeats 2000000 in
theorem Spins_up {W : World} {g h : Nat} {y : Int} (B : Blk W g #[.int .i64 s, .bool t, .bool k, .int .i64 r, .int .i64 o] 23) (D : Blk W h #[.int .i64 u] 3) (hc : ∀ W, Calls Try.prog 33 #[ov s t k r o] W fun e w' => e = .panicked (pan y) ∧ Gr W w') :
    Calls Try.prog 32 #[.pointer (some ⟨g, 0, none⟩), .pointer (some ⟨h, 0, none⟩)] W fun e w' => e = .panicked (pan y) ∧ Gr W w' := by
  have HC := fun W => Lib.hid (hc W)
  obtain ⟨⟨q0, q1, q2, q3, q4⟩, -⟩ := own_cells B
  clear hc
  go_enter Try.func32, Try.ntmps32
  go_wp2_with fail
  with_reducible refine (HC _).out.mono ?_
  rintro e w1 ⟨rfl, g1⟩
  go_wp2_with fail
  exact ⟨rfl, rfl, g1⟩
set_option maxHeartbeats 1000000 in
/-- Spins, by what its closure answers. -/
theorem SpinsB {v : Bool} (hq : ∀ W g h, Blk W g #[.int .i64 s, .bool t, .bool k, .int .i64 r, .int .i64 o] 23 → Blk W h #[.int .i64 u] 3 → Calls Try.prog 32 #[.pointer (some ⟨g, 0, none⟩), .pointer (some ⟨h, 0, none⟩)] W fun e w' => e = .returned (.bool v) ∧ Gr W w') :
    Calls Try.prog 8 #[ov s t k r o, .int .i64 u] w fun e w' => e = .returned (.tuple #[.bool v, .int .i64 0]) ∧ Gr w w' := by
  have N0 := (Blk.new w #[.int .i64 s, .bool t, .bool k, .int .i64 r, .int .i64 o] 23).al (.cells #[.int .i64 u] 3)
  have N1 := Blk.new (w.alloc (.cells #[.int .i64 s, .bool t, .bool k, .int .i64 r, .int .i64 o] 23)) #[.int .i64 u] 3
  rw [World.size_alloc] at N1
  have T := Lib.hid (toldB_ok (F := 32) (caps := #[.pointer (some ⟨w.heap.size, 0, none⟩), .pointer (some ⟨w.heap.size + 1, 0, none⟩)]) (w := (w.alloc (.cells #[.int .i64 s, .bool t, .bool k, .int .i64 r, .int .i64 o] 23)).alloc (.cells #[.int .i64 u] 3)) (enters_of Try.func32 (by kernel_rfl) rfl) v (fun W G => hq W _ _ (N0.gr G) (N1.gr G)))
  have G0 := (((Gr.refl w).al (.cells #[.int .i64 s, .bool t, .bool k, .int .i64 r, .int .i64 o] 23)).al (.cells #[.int .i64 u] 3))
  clear hq N0 N1
  have hmf : ∀ (fn : Fn) (first cap : Array Value) (w : World), (Instr.makeFunc fn first cap).run Try.prog w = .ok (.func fn first cap) w := fun _ _ _ _ => rfl
  go_enter Try.func8, Try.ntmps8
  go_wp2_with fail
  with_reducible refine T.out.mono ?_
  rintro e w1 ⟨rfl, g1⟩
  go_wp2_with fail
  go_ret2
  exact ⟨rfl, G0.trans g1⟩
set_option maxHeartbeats 1000000 in
theorem SpinsN {y : Int} (hq : ∀ W g h, Blk W g #[.int .i64 s, .bool t, .bool k, .int .i64 r, .int .i64 o] 23 → Blk W h #[.int .i64 u] 3 → Calls Try.prog 32 #[.pointer (some ⟨g, 0, none⟩), .pointer (some ⟨h, 0, none⟩)] W fun e w' => e = .panicked (pan y) ∧ Gr W w') :
    Calls Try.prog 8 #[ov s t k r o, .int .i64 u] w fun e w' => e = .returned (.tuple #[.bool false, .int .i64 y]) ∧ Gr w w' := by
  have N0 := (Blk.new w #[.int .i64 s, .bool t, .bool k, .int .i64 r, .int .i64 o] 23).al (.cells #[.int .i64 u] 3)
  have N1 := Blk.new (w.alloc (.cells #[.int .i64 s, .bool t, .bool k, .int .i64 r, .int .i64 o] 23)) #[.int .i64 u] 3
  rw [World.size_alloc] at N1
  have T := Lib.hid (toldB_no (F := 32) (caps := #[.pointer (some ⟨w.heap.size, 0, none⟩), .pointer (some ⟨w.heap.size + 1, 0, none⟩)]) (w := (w.alloc (.cells #[.int .i64 s, .bool t, .bool k, .int .i64 r, .int .i64 o] 23)).alloc (.cells #[.int .i64 u] 3)) (enters_of Try.func32 (by kernel_rfl) rfl) y (fun W G => hq W _ _ (N0.gr G) (N1.gr G)))
  have G0 := (((Gr.refl w).al (.cells #[.int .i64 s, .bool t, .bool k, .int .i64 r, .int .i64 o] 23)).al (.cells #[.int .i64 u] 3))
  clear hq N0 N1
  have hmf : ∀ (fn : Fn) (first cap : Array Value) (w : World), (Instr.makeFunc fn first cap).run Try.prog w = .ok (.func fn first cap) w := fun _ _ _ _ => rfl
  go_enter Try.func8, Try.ntmps8
  go_wp2_with fail
  with_reducible refine T.out.mono ?_
  rintro e w1 ⟨rfl, g1⟩
  go_wp2_with fail
  go_ret2
  exact ⟨rfl, G0.trans g1⟩
end
end P14
end Go.Proofs.Ytddgihbgdlnlbaa
