/-
  Proved: deadboltlaw14.GrabSleeps returns true at every input (whoever goes to wait, and is told, at any time, with any word, is as the document says, or refused). No condition.
-/
import Derived.Test.YtddgihbgdlnlbaaGrabAlive
import Derived.Test.YtddgihbgdlnlbaaGrabSleep
import Derived.Test.YtddgihbgdlnlbaaGrabWake
import Derived.Test.YtddgihbgdlnlbaaGrabRef
import Derived.Test.YtddgihbgdlnlbaaGrabRefC
import Derived.Test.YtddgihbgdlnlbaaOpenOwn
import Derived.Test.YtddgihbgdlnlbaaEnds
import Derived.Deep.DeepCutAuto
namespace Go.Proofs.Ytddgihbgdlnlbaa
open Go.ChangeShapes Go.WideShapes Go.ChangeAt Go.RowKit Go.Deep
set_option linter.unusedVariables false
set_option linter.unusedSimpArgs false
set_option maxRecDepth 100000

open P14 P3 P4
section
variable {s r : Int} {t k a b c : Bool} {n u o x : Int} {w : World}
theorem own_nn (w : World) : (binOp .eql 23 (ov 0 false false 0 0) (ov 0 false false 0 0)).run Try.prog w = .ok (.bool true) w := by kernel_rfl
theorem own_same (s : Int) (t k : Bool) (r o : Int) (w : World) : (binOp .eql 23 (ov s t k r o) (ov s t k r o)).run Try.prog w = .ok (.bool true) w := by
  rw [run_own_eql, ovEq_refl]
theorem own_diff (s : Int) (t k : Bool) (r o : Int) (w : World) : (binOp .neq 23 (ov s t k r o) (ov s t k r o)).run Try.prog w = .ok (.bool false) w := by
  rw [run_own_neq, ovEq_refl]; rfl
set_option maxHeartbeats 8000000 in
theorem GrabSleeps_bad (h1 : ∀ w, Calls Try.prog 23 #[ov s t k r o, .int .i64 u] w fun e w' => e = .returned (.tuple #[ov 0 false false 0 0, .bool false, .int .i64 1]) ∧ Gr w w')
    (h2 : ∀ w, Calls Try.prog 24 #[ov s t k r o, .int .i64 u, .int .i64 x] w fun e w' => e = .returned (.tuple #[ov 0 false false 0 0, .bool false, .int .i64 1]) ∧ Gr w w')
    (h3 : ∀ w, Calls Try.prog 14 #[ov s t k r o] w fun e w' => e = .returned (.bool false) ∧ Gr w w') :
    Calls Try.prog 4 #[ov s t k r o, .int .i64 u, .int .i64 x] w fun e w' => e = .returned (.bool true) ∧ Gr w w' := by
  have H1 := fun w => Lib.hid (h1 w)
  have H2 := fun w => Lib.hid (h2 w)
  have H3 := fun w => Lib.hid (h3 w)
  clear h1 h2 h3
  have HNN := own_nn
  have HAL := fun w => Lib.hid (alive_is w)
  have HB := Lib.hid (Blk.new w #[.int .i64 s, .bool t, .bool k, .int .i64 r, .int .i64 o] 23)
  have HG := Lib.hid ((Gr.refl w).al (.cells #[.int .i64 s, .bool t, .bool k, .int .i64 r, .int .i64 o] 23))
  have HB0 := HB
  have HBlt := Lib.hid fun (w1 : World) (g : Gr _ w1) => (HB0.out.gr g).lt
  go_enter Try.func4, Try.ntmps4
  go_wp2_with fail
  with_reducible refine (H1 _).out.mono ?_
  rintro e w1 ⟨rfl, g⟩
  have HA := Lib.hid (Blk.new w1 #[.int .i64 0, .bool false, .bool false, .int .i64 0, .int .i64 0] 23)
  replace HB := Lib.hid ((HB.out.gr g).al (.cells #[.int .i64 0, .bool false, .bool false, .int .i64 0, .int .i64 0] 23))
  replace HG := Lib.hid ((HG.out.trans g).al (.cells #[.int .i64 0, .bool false, .bool false, .int .i64 0, .int .i64 0] 23))
  have hl := (HBlt.out w1 g)
  obtain ⟨⟨q0, q1, q2, q3, q4⟩, -⟩ := own_cells (HB0.out.gr g)
  clear g HB0 HBlt
  go_wp2_with fail
  with_reducible refine (H2 _).out.mono ?_
  rintro e w2 ⟨rfl, g⟩
  clear q0 q1 q2 q3 q4 hl
  have HC := Lib.hid ((Blk.new w2 #[.int .i64 0, .bool false, .bool false, .int .i64 0, .int .i64 0] 23).al (.cells #[.int .i64 0, .bool false, .bool false, .int .i64 0, .int .i64 0] 23))
  have HZ := Blk.new (w2.alloc (.cells #[.int .i64 0, .bool false, .bool false, .int .i64 0, .int .i64 0] 23)) #[.int .i64 0, .bool false, .bool false, .int .i64 0, .int .i64 0] 23
  rw [World.size_alloc] at HZ
  have HZ := Lib.hid HZ
  replace HA := Lib.hid (((HA.out.gr g).al (.cells #[.int .i64 0, .bool false, .bool false, .int .i64 0, .int .i64 0] 23)).al (.cells #[.int .i64 0, .bool false, .bool false, .int .i64 0, .int .i64 0] 23))
  have hlt := (HB.out.gr g).lt
  have hlt2 : w.heap.size < w2.heap.size + 1 := Nat.lt_succ_of_lt hlt
  obtain ⟨⟨q0, q1, q2, q3, q4⟩, -⟩ := own_cells (HB.out.gr g)
  replace HB := Lib.hid (((HB.out.gr g).al (.cells #[.int .i64 0, .bool false, .bool false, .int .i64 0, .int .i64 0] 23)).al (.cells #[.int .i64 0, .bool false, .bool false, .int .i64 0, .int .i64 0] 23))
  replace HG := Lib.hid (((HG.out.trans g).al (.cells #[.int .i64 0, .bool false, .bool false, .int .i64 0, .int .i64 0] 23)).al (.cells #[.int .i64 0, .bool false, .bool false, .int .i64 0, .int .i64 0] 23))
  clear g
  go_wp2_with fail
  with_reducible refine (H3 _).out.mono ?_
  rintro e w3 ⟨rfl, g⟩
  clear q0 q1 q2 q3 q4 hlt hlt2
  replace HA := Lib.hid (HA.out.gr g)
  replace HB := Lib.hid (HB.out.gr g)
  replace HC := Lib.hid (HC.out.gr g)
  replace HZ := Lib.hid (HZ.out.gr g)
  replace HG := Lib.hid (HG.out.trans g)
  clear g
  go_wp2_with fail
  with_reducible refine (HAL _).out.mono ?_
  rintro e w4 ⟨rfl, g⟩
  replace HA := Lib.hid (HA.out.gr g)
  replace HB := Lib.hid (HB.out.gr g)
  replace HC := Lib.hid (HC.out.gr g)
  replace HZ := Lib.hid (HZ.out.gr g)
  replace HG := Lib.hid (HG.out.trans g)
  clear g
  obtain ⟨⟨a0, a1, a2, a3, a4⟩, -⟩ := own_cells HA.out
  obtain ⟨⟨c0, c1, c2, c3, c4⟩, -⟩ := own_cells HC.out
  obtain ⟨⟨z0, z1, z2, z3, z4⟩, -⟩ := own_cells HZ.out
  go_wp2_with fail
  go_ret
  exact ⟨rfl, HG.out⟩
set_option maxHeartbeats 8000000 in
theorem GrabSleeps_late (h1 : ∀ w, Calls Try.prog 23 #[ov s t k r o, .int .i64 u] w fun e w' => e = .returned (.tuple #[ov 0 false false 0 0, .bool false, .int .i64 1]) ∧ Gr w w')
    (h2 : ∀ w, Calls Try.prog 24 #[ov s t k r o, .int .i64 u, .int .i64 x] w fun e w' => e = .returned (.tuple #[ov 0 false false 0 0, .bool false, .int .i64 1]) ∧ Gr w w')
    (h3 : ∀ w, Calls Try.prog 14 #[ov s t k r o] w fun e w' => e = .returned (.bool true) ∧ Gr w w') (h4 : ¬ Tm u) :
    Calls Try.prog 4 #[ov s t k r o, .int .i64 u, .int .i64 x] w fun e w' => e = .returned (.bool true) ∧ Gr w w' := by
  have H1 := fun w => Lib.hid (h1 w)
  have H2 := fun w => Lib.hid (h2 w)
  have H3 := fun w => Lib.hid (h3 w)
  have H4 := fun w => Lib.hid (P4.rRight_no u h4 w)
  clear h4
  clear h1 h2 h3
  have HNN := own_nn
  have HAL := fun w => Lib.hid (alive_is w)
  have HB := Lib.hid (Blk.new w #[.int .i64 s, .bool t, .bool k, .int .i64 r, .int .i64 o] 23)
  have HG := Lib.hid ((Gr.refl w).al (.cells #[.int .i64 s, .bool t, .bool k, .int .i64 r, .int .i64 o] 23))
  have HB0 := HB
  have HBlt := Lib.hid fun (w1 : World) (g : Gr _ w1) => (HB0.out.gr g).lt
  go_enter Try.func4, Try.ntmps4
  go_wp2_with fail
  with_reducible refine (H1 _).out.mono ?_
  rintro e w1 ⟨rfl, g⟩
  have HA := Lib.hid (Blk.new w1 #[.int .i64 0, .bool false, .bool false, .int .i64 0, .int .i64 0] 23)
  replace HB := Lib.hid ((HB.out.gr g).al (.cells #[.int .i64 0, .bool false, .bool false, .int .i64 0, .int .i64 0] 23))
  replace HG := Lib.hid ((HG.out.trans g).al (.cells #[.int .i64 0, .bool false, .bool false, .int .i64 0, .int .i64 0] 23))
  have hl := (HBlt.out w1 g)
  obtain ⟨⟨q0, q1, q2, q3, q4⟩, -⟩ := own_cells (HB0.out.gr g)
  clear g HB0 HBlt
  go_wp2_with fail
  with_reducible refine (H2 _).out.mono ?_
  rintro e w2 ⟨rfl, g⟩
  clear q0 q1 q2 q3 q4 hl
  have HC := Lib.hid ((Blk.new w2 #[.int .i64 0, .bool false, .bool false, .int .i64 0, .int .i64 0] 23).al (.cells #[.int .i64 0, .bool false, .bool false, .int .i64 0, .int .i64 0] 23))
  have HZ := Blk.new (w2.alloc (.cells #[.int .i64 0, .bool false, .bool false, .int .i64 0, .int .i64 0] 23)) #[.int .i64 0, .bool false, .bool false, .int .i64 0, .int .i64 0] 23
  rw [World.size_alloc] at HZ
  have HZ := Lib.hid HZ
  replace HA := Lib.hid (((HA.out.gr g).al (.cells #[.int .i64 0, .bool false, .bool false, .int .i64 0, .int .i64 0] 23)).al (.cells #[.int .i64 0, .bool false, .bool false, .int .i64 0, .int .i64 0] 23))
  have hlt := (HB.out.gr g).lt
  have hlt2 : w.heap.size < w2.heap.size + 1 := Nat.lt_succ_of_lt hlt
  obtain ⟨⟨q0, q1, q2, q3, q4⟩, -⟩ := own_cells (HB.out.gr g)
  replace HB := Lib.hid (((HB.out.gr g).al (.cells #[.int .i64 0, .bool false, .bool false, .int .i64 0, .int .i64 0] 23)).al (.cells #[.int .i64 0, .bool false, .bool false, .int .i64 0, .int .i64 0] 23))
  replace HG := Lib.hid (((HG.out.trans g).al (.cells #[.int .i64 0, .bool false, .bool false, .int .i64 0, .int .i64 0] 23)).al (.cells #[.int .i64 0, .bool false, .bool false, .int .i64 0, .int .i64 0] 23))
  clear g
  go_wp2_with fail
  with_reducible refine (H3 _).out.mono ?_
  rintro e w3 ⟨rfl, g⟩
  clear q0 q1 q2 q3 q4 hlt hlt2
  replace HA := Lib.hid (HA.out.gr g)
  replace HB := Lib.hid (HB.out.gr g)
  replace HC := Lib.hid (HC.out.gr g)
  replace HZ := Lib.hid (HZ.out.gr g)
  replace HG := Lib.hid (HG.out.trans g)
  clear g
  go_wp2_with fail
  with_reducible refine (H4 _).out.mono ?_
  rintro e w3' ⟨rfl, rfl⟩
  go_wp2_with fail
  with_reducible refine (HAL _).out.mono ?_
  rintro e w4 ⟨rfl, g⟩
  replace HA := Lib.hid (HA.out.gr g)
  replace HB := Lib.hid (HB.out.gr g)
  replace HC := Lib.hid (HC.out.gr g)
  replace HZ := Lib.hid (HZ.out.gr g)
  replace HG := Lib.hid (HG.out.trans g)
  clear g
  obtain ⟨⟨a0, a1, a2, a3, a4⟩, -⟩ := own_cells HA.out
  obtain ⟨⟨c0, c1, c2, c3, c4⟩, -⟩ := own_cells HC.out
  obtain ⟨⟨z0, z1, z2, z3, z4⟩, -⟩ := own_cells HZ.out
  go_wp2_with fail
  go_ret
  exact ⟨rfl, HG.out⟩
set_option maxHeartbeats 8000000 in
theorem GrabSleeps_word {s1 r1 o1 s2 r2 o2 : Int} {t1 k1 p t2 k2 q : Bool} (h1 : ∀ w, Calls Try.prog 23 #[ov s t k r o, .int .i64 u] w fun e w' => e = .returned (.tuple #[ov s1 t1 k1 r1 o1, .bool p, .int .i64 0]) ∧ Gr w w')
    (h2 : ∀ w, Calls Try.prog 24 #[ov s t k r o, .int .i64 u, .int .i64 x] w fun e w' => e = .returned (.tuple #[ov 0 false false 0 0, .bool false, .int .i64 1]) ∧ Gr w w')
    (h3 : ∀ w, Calls Try.prog 14 #[ov s t k r o] w fun e w' => e = .returned (.bool true) ∧ Gr w w') (h4 : Tm u)
    (h5 : ∀ w, Calls Try.prog 26 #[ov s t k r o, .int .i64 u] w fun e w' => e = .returned (.tuple #[ov s1 t1 k1 r1 o1, .bool p]) ∧ Gr w w') (h6 : ¬ OkW x) :
    Calls Try.prog 4 #[ov s t k r o, .int .i64 u, .int .i64 x] w fun e w' => e = .returned (.bool true) ∧ Gr w w' := by
  have H1 := fun w => Lib.hid (h1 w)
  have H2 := fun w => Lib.hid (h2 w)
  have H3 := fun w => Lib.hid (h3 w)
  have H4 := fun w => Lib.hid (P4.rRight_yes u h4 w)
  have H5 := fun w => Lib.hid (h5 w)
  have H6 := fun w => Lib.hid (P3.rWord_no x h6 w)
  have HD := fun w => own_diff s1 t1 k1 r1 o1 w
  clear h1 h2 h3 h4 h5 h6
  have HNN := own_nn
  have HAL := fun w => Lib.hid (alive_is w)
  have HB := Lib.hid (Blk.new w #[.int .i64 s, .bool t, .bool k, .int .i64 r, .int .i64 o] 23)
  have HG := Lib.hid ((Gr.refl w).al (.cells #[.int .i64 s, .bool t, .bool k, .int .i64 r, .int .i64 o] 23))
  have HB0 := HB
  have HBlt := Lib.hid fun (w1 : World) (g : Gr _ w1) => (HB0.out.gr g).lt
  go_enter Try.func4, Try.ntmps4
  go_wp2_with fail
  with_reducible refine (H1 _).out.mono ?_
  rintro e w1 ⟨rfl, g⟩
  have HA := Lib.hid (Blk.new w1 #[.int .i64 s1, .bool t1, .bool k1, .int .i64 r1, .int .i64 o1] 23)
  replace HB := Lib.hid ((HB.out.gr g).al (.cells #[.int .i64 s1, .bool t1, .bool k1, .int .i64 r1, .int .i64 o1] 23))
  replace HG := Lib.hid ((HG.out.trans g).al (.cells #[.int .i64 s1, .bool t1, .bool k1, .int .i64 r1, .int .i64 o1] 23))
  have hl := (HBlt.out w1 g)
  obtain ⟨⟨q0, q1, q2, q3, q4⟩, -⟩ := own_cells (HB0.out.gr g)
  clear g HB0 HBlt
  go_wp2_with fail
  with_reducible refine (H2 _).out.mono ?_
  rintro e w2 ⟨rfl, g⟩
  clear q0 q1 q2 q3 q4 hl
  have HC := Lib.hid ((Blk.new w2 #[.int .i64 0, .bool false, .bool false, .int .i64 0, .int .i64 0] 23).al (.cells #[.int .i64 0, .bool false, .bool false, .int .i64 0, .int .i64 0] 23))
  have HZ := Blk.new (w2.alloc (.cells #[.int .i64 0, .bool false, .bool false, .int .i64 0, .int .i64 0] 23)) #[.int .i64 0, .bool false, .bool false, .int .i64 0, .int .i64 0] 23
  rw [World.size_alloc] at HZ
  have HZ := Lib.hid HZ
  replace HA := Lib.hid (((HA.out.gr g).al (.cells #[.int .i64 0, .bool false, .bool false, .int .i64 0, .int .i64 0] 23)).al (.cells #[.int .i64 0, .bool false, .bool false, .int .i64 0, .int .i64 0] 23))
  have hlt := (HB.out.gr g).lt
  have hlt2 : w.heap.size < w2.heap.size + 1 := Nat.lt_succ_of_lt hlt
  obtain ⟨⟨q0, q1, q2, q3, q4⟩, -⟩ := own_cells (HB.out.gr g)
  replace HB := Lib.hid (((HB.out.gr g).al (.cells #[.int .i64 0, .bool false, .bool false, .int .i64 0, .int .i64 0] 23)).al (.cells #[.int .i64 0, .bool false, .bool false, .int .i64 0, .int .i64 0] 23))
  replace HG := Lib.hid (((HG.out.trans g).al (.cells #[.int .i64 0, .bool false, .bool false, .int .i64 0, .int .i64 0] 23)).al (.cells #[.int .i64 0, .bool false, .bool false, .int .i64 0, .int .i64 0] 23))
  clear g
  go_wp2_with fail
  with_reducible refine (H3 _).out.mono ?_
  rintro e w3 ⟨rfl, g⟩
  clear q0 q1 q2 q3 q4 hlt hlt2
  replace HA := Lib.hid (HA.out.gr g)
  replace HB := Lib.hid (HB.out.gr g)
  replace HC := Lib.hid (HC.out.gr g)
  replace HZ := Lib.hid (HZ.out.gr g)
  replace HG := Lib.hid (HG.out.trans g)
  clear g
  obtain ⟨⟨q0, q1, q2, q3, q4⟩, -⟩ := own_cells HB.out
  go_wp2_with fail
  with_reducible refine (H4 _).out.mono ?_
  rintro e w3' ⟨rfl, rfl⟩
  go_wp2_with fail
  with_reducible refine (H5 _).out.mono ?_
  rintro e w4 ⟨rfl, g⟩
  clear q0 q1 q2 q3 q4
  have HX := Lib.hid (Blk.new w4 #[.int .i64 s1, .bool t1, .bool k1, .int .i64 r1, .int .i64 o1] 23)
  have hlA := (HA.out.gr g).lt
  replace HA := Lib.hid (HA.out.gr g)
  replace HB := Lib.hid (HB.out.gr g)
  replace HC := Lib.hid (HC.out.gr g)
  replace HZ := Lib.hid (HZ.out.gr g)
  replace HG := Lib.hid (HG.out.trans g)
  clear g
  obtain ⟨⟨a0, a1, a2, a3, a4⟩, -⟩ := own_cells HA.out
  go_wp2_with fail
  with_reducible refine (HAL _).out.mono ?_
  rintro e w5 ⟨rfl, g⟩
  clear a0 a1 a2 a3 a4 hlA
  replace HA := Lib.hid ((HA.out.al (.cells #[.int .i64 s1, .bool t1, .bool k1, .int .i64 r1, .int .i64 o1] 23)).gr g)
  replace HB := Lib.hid ((HB.out.al (.cells #[.int .i64 s1, .bool t1, .bool k1, .int .i64 r1, .int .i64 o1] 23)).gr g)
  replace HC := Lib.hid ((HC.out.al (.cells #[.int .i64 s1, .bool t1, .bool k1, .int .i64 r1, .int .i64 o1] 23)).gr g)
  replace HZ := Lib.hid ((HZ.out.al (.cells #[.int .i64 s1, .bool t1, .bool k1, .int .i64 r1, .int .i64 o1] 23)).gr g)
  replace HG := Lib.hid ((HG.out.al (.cells #[.int .i64 s1, .bool t1, .bool k1, .int .i64 r1, .int .i64 o1] 23)).trans g)
  clear g
  clear HX
  obtain ⟨⟨q0, q1, q2, q3, q4⟩, -⟩ := own_cells HB.out
  go_wp2_with fail
  with_reducible refine (H6 _).out.mono ?_
  rintro e w5' ⟨rfl, rfl⟩
  obtain ⟨⟨c0, c1, c2, c3, c4⟩, -⟩ := own_cells HC.out
  obtain ⟨⟨z0, z1, z2, z3, z4⟩, -⟩ := own_cells HZ.out
  go_wp2_with fail
  go_ret
  exact ⟨rfl, HG.out⟩
set_option maxHeartbeats 8000000 in
theorem GrabSleeps_ok {s1 r1 o1 s2 r2 o2 : Int} {t1 k1 p t2 k2 q : Bool} (h1 : ∀ w, Calls Try.prog 23 #[ov s t k r o, .int .i64 u] w fun e w' => e = .returned (.tuple #[ov s1 t1 k1 r1 o1, .bool p, .int .i64 0]) ∧ Gr w w')
    (h2 : ∀ w, Calls Try.prog 24 #[ov s t k r o, .int .i64 u, .int .i64 x] w fun e w' => e = .returned (.tuple #[ov s2 t2 k2 r2 o2, .bool q, .int .i64 0]) ∧ Gr w w')
    (h3 : ∀ w, Calls Try.prog 14 #[ov s t k r o] w fun e w' => e = .returned (.bool true) ∧ Gr w w') (h4 : Tm u)
    (h5 : ∀ w, Calls Try.prog 26 #[ov s t k r o, .int .i64 u] w fun e w' => e = .returned (.tuple #[ov s1 t1 k1 r1 o1, .bool p]) ∧ Gr w w') (h6 : OkW x) (h7 : ∀ w, Calls Try.prog 28 #[ov s t k r o, .int .i64 u, .int .i64 x] w fun e w' => e = .returned (.tuple #[ov s2 t2 k2 r2 o2, .bool q]) ∧ Gr w w') :
    Calls Try.prog 4 #[ov s t k r o, .int .i64 u, .int .i64 x] w fun e w' => e = .returned (.bool true) ∧ Gr w w' := by
  have H1 := fun w => Lib.hid (h1 w)
  have H2 := fun w => Lib.hid (h2 w)
  have H3 := fun w => Lib.hid (h3 w)
  have H4 := fun w => Lib.hid (P4.rRight_yes u h4 w)
  have H5 := fun w => Lib.hid (h5 w)
  have H6 := fun w => Lib.hid (P3.rWord_yes x h6 w)
  have H7 := fun w => Lib.hid (h7 w)
  have HD := fun w => own_diff s1 t1 k1 r1 o1 w
  have HE := fun w => own_same s2 t2 k2 r2 o2 w
  clear h1 h2 h3 h4 h5 h6 h7
  have HNN := own_nn
  have HAL := fun w => Lib.hid (alive_is w)
  have HB := Lib.hid (Blk.new w #[.int .i64 s, .bool t, .bool k, .int .i64 r, .int .i64 o] 23)
  have HG := Lib.hid ((Gr.refl w).al (.cells #[.int .i64 s, .bool t, .bool k, .int .i64 r, .int .i64 o] 23))
  have HB0 := HB
  have HBlt := Lib.hid fun (w1 : World) (g : Gr _ w1) => (HB0.out.gr g).lt
  go_enter Try.func4, Try.ntmps4
  go_wp2_with fail
  with_reducible refine (H1 _).out.mono ?_
  rintro e w1 ⟨rfl, g⟩
  have HA := Lib.hid (Blk.new w1 #[.int .i64 s1, .bool t1, .bool k1, .int .i64 r1, .int .i64 o1] 23)
  replace HB := Lib.hid ((HB.out.gr g).al (.cells #[.int .i64 s1, .bool t1, .bool k1, .int .i64 r1, .int .i64 o1] 23))
  replace HG := Lib.hid ((HG.out.trans g).al (.cells #[.int .i64 s1, .bool t1, .bool k1, .int .i64 r1, .int .i64 o1] 23))
  have hl := (HBlt.out w1 g)
  obtain ⟨⟨q0, q1, q2, q3, q4⟩, -⟩ := own_cells (HB0.out.gr g)
  clear g HB0 HBlt
  go_wp2_with fail
  with_reducible refine (H2 _).out.mono ?_
  rintro e w2 ⟨rfl, g⟩
  clear q0 q1 q2 q3 q4 hl
  have HC := Lib.hid ((Blk.new w2 #[.int .i64 s2, .bool t2, .bool k2, .int .i64 r2, .int .i64 o2] 23).al (.cells #[.int .i64 0, .bool false, .bool false, .int .i64 0, .int .i64 0] 23))
  have HZ := Blk.new (w2.alloc (.cells #[.int .i64 s2, .bool t2, .bool k2, .int .i64 r2, .int .i64 o2] 23)) #[.int .i64 0, .bool false, .bool false, .int .i64 0, .int .i64 0] 23
  rw [World.size_alloc] at HZ
  have HZ := Lib.hid HZ
  replace HA := Lib.hid (((HA.out.gr g).al (.cells #[.int .i64 s2, .bool t2, .bool k2, .int .i64 r2, .int .i64 o2] 23)).al (.cells #[.int .i64 0, .bool false, .bool false, .int .i64 0, .int .i64 0] 23))
  have hlt := (HB.out.gr g).lt
  have hlt2 : w.heap.size < w2.heap.size + 1 := Nat.lt_succ_of_lt hlt
  obtain ⟨⟨q0, q1, q2, q3, q4⟩, -⟩ := own_cells (HB.out.gr g)
  replace HB := Lib.hid (((HB.out.gr g).al (.cells #[.int .i64 s2, .bool t2, .bool k2, .int .i64 r2, .int .i64 o2] 23)).al (.cells #[.int .i64 0, .bool false, .bool false, .int .i64 0, .int .i64 0] 23))
  replace HG := Lib.hid (((HG.out.trans g).al (.cells #[.int .i64 s2, .bool t2, .bool k2, .int .i64 r2, .int .i64 o2] 23)).al (.cells #[.int .i64 0, .bool false, .bool false, .int .i64 0, .int .i64 0] 23))
  clear g
  go_wp2_with fail
  with_reducible refine (H3 _).out.mono ?_
  rintro e w3 ⟨rfl, g⟩
  clear q0 q1 q2 q3 q4 hlt hlt2
  replace HA := Lib.hid (HA.out.gr g)
  replace HB := Lib.hid (HB.out.gr g)
  replace HC := Lib.hid (HC.out.gr g)
  replace HZ := Lib.hid (HZ.out.gr g)
  replace HG := Lib.hid (HG.out.trans g)
  clear g
  obtain ⟨⟨q0, q1, q2, q3, q4⟩, -⟩ := own_cells HB.out
  go_wp2_with fail
  with_reducible refine (H4 _).out.mono ?_
  rintro e w3' ⟨rfl, rfl⟩
  go_wp2_with fail
  with_reducible refine (H5 _).out.mono ?_
  rintro e w4 ⟨rfl, g⟩
  clear q0 q1 q2 q3 q4
  have HX := Lib.hid (Blk.new w4 #[.int .i64 s1, .bool t1, .bool k1, .int .i64 r1, .int .i64 o1] 23)
  have hlA := (HA.out.gr g).lt
  replace HA := Lib.hid (HA.out.gr g)
  replace HB := Lib.hid (HB.out.gr g)
  replace HC := Lib.hid (HC.out.gr g)
  replace HZ := Lib.hid (HZ.out.gr g)
  replace HG := Lib.hid (HG.out.trans g)
  clear g
  obtain ⟨⟨a0, a1, a2, a3, a4⟩, -⟩ := own_cells HA.out
  go_wp2_with fail
  with_reducible refine (HAL _).out.mono ?_
  rintro e w5 ⟨rfl, g⟩
  clear a0 a1 a2 a3 a4 hlA
  replace HA := Lib.hid ((HA.out.al (.cells #[.int .i64 s1, .bool t1, .bool k1, .int .i64 r1, .int .i64 o1] 23)).gr g)
  replace HB := Lib.hid ((HB.out.al (.cells #[.int .i64 s1, .bool t1, .bool k1, .int .i64 r1, .int .i64 o1] 23)).gr g)
  replace HC := Lib.hid ((HC.out.al (.cells #[.int .i64 s1, .bool t1, .bool k1, .int .i64 r1, .int .i64 o1] 23)).gr g)
  replace HZ := Lib.hid ((HZ.out.al (.cells #[.int .i64 s1, .bool t1, .bool k1, .int .i64 r1, .int .i64 o1] 23)).gr g)
  replace HG := Lib.hid ((HG.out.al (.cells #[.int .i64 s1, .bool t1, .bool k1, .int .i64 r1, .int .i64 o1] 23)).trans g)
  clear g
  clear HX
  obtain ⟨⟨q0, q1, q2, q3, q4⟩, -⟩ := own_cells HB.out
  go_wp2_with fail
  with_reducible refine (H6 _).out.mono ?_
  rintro e w5' ⟨rfl, rfl⟩
  go_wp2_with fail
  with_reducible refine (H7 _).out.mono ?_
  rintro e w6 ⟨rfl, g⟩
  clear q0 q1 q2 q3 q4
  have hlC := (HC.out.gr g).lt
  replace HC := Lib.hid (HC.out.gr g)
  replace HG := Lib.hid (HG.out.trans g)
  clear g
  obtain ⟨⟨c0, c1, c2, c3, c4⟩, -⟩ := own_cells HC.out
  go_wp2_with fail
  go_ret
  exact ⟨by simp, HG.out.al _⟩
end
theorem GrabSleeps_walk (w : World) (s : Int) (t k : Bool) (r o : Int) (hs : P14.B64 s) (hr : P14.B64 r) (ho : P14.B64 o) (u : Int) (hu : -9223372036854775808 ≤ u ∧ u ≤ 9223372036854775807) (x : Int) (hx : -9223372036854775808 ≤ x ∧ x ≤ 9223372036854775807) :
    Calls Try.prog 4 #[ov s t k r o, .int .i64 u, .int .i64 x] w fun e w' => e = .returned (.bool true) ∧ Gr w w' := by
  by_cases h : OkS s r ∧ OkW o
  · obtain ⟨a, b, c, n, e, hn⟩ := P3.pw_of h.2
    by_cases ht : Tm u
    · have hp : decide (snc s u = s) = (!decide (s = -1)) := by
        unfold snc P4.Tm at *
        by_cases h1 : s = -1
        · simp [h1]; omega
        · simp [h1]
      have h1 : ∀ w, Calls Try.prog 23 #[ov s t k r o, .int .i64 u] w fun e w' => e = .returned (.tuple #[ov (snc s u) t k r o, .bool (!decide (s = -1)), .int .i64 0]) ∧ Gr w w' := fun w => by
        rw [← hp]
        exact Sleep_ok fun W => by rw [e]; exact asleep_ok h.1 hn ht
      by_cases hw : OkW x
      · obtain ⟨a2, b2, c2, n2, rfl, hn2⟩ := P3.pw_of hw
        cases c2
        · exact GrabSleeps_ok h1 (fun w => Wake_ok fun W => woken_back h.1 h.2 ht hn2 rfl) (fun w => rRight_yes h.1 h.2) ht (fun w => rSleep_is) hw (fun w => rWake_back h.1.1 ht hn2 rfl)
        · exact GrabSleeps_ok h1 (fun w => Wake_ok fun W => woken_handed h.1 h.2 ht hn2 rfl) (fun w => rRight_yes h.1 h.2) ht (fun w => rSleep_is) hw (fun w => rWake_handed h.1.1 ht hn2 rfl)
      · exact GrabSleeps_word (s2 := 0) (r2 := 0) (o2 := 0) (t2 := false) (k2 := false) (q := false) h1 (fun w => Wake_no fun W => woken_word h.1 h.2 ht hw rfl) (fun w => rRight_yes h.1 h.2) ht (fun w => rSleep_is) hw
    · exact GrabSleeps_late (fun w => Sleep_no (y := 1) (by decide) fun W => by rw [e]; exact asleep_no h.1 hn ht) (fun w => Wake_no fun W => woken_late h.1 h.2 ht) (fun w => rRight_yes h.1 h.2) ht
  · exact GrabSleeps_bad (fun w => Sleep_no (y := 1) (by decide) fun W => asleep_bad h) (fun w => Wake_no fun W => woken_bad h) (fun w => rRight_no h)
set_option maxRecDepth 100000 in
theorem GrabSleeps_lifted (os : Os) (started : os.Started) (H : Type) (enc : TypeId × Value → H) :
    ReturnsInHanded {} Try.checked os 4 .any (Rows.grabSleepsSpec.pre6 enc Try.prog Try.f4 Rows.grabSleepsRow.domain false) (Rows.grabSleepsSpec.post enc Try.prog Try.f4 false true false false) := by
  refine returnsInHanded_of_change (C := Try.checked) own started (by kernel_rfl) Try.func4
    (ChangeSpec.witness6 (enc := enc) (C := Try.checked) false ⟨#[], #[.agg #[.int .i64 0, .bool false, .bool false, .int .i64 0, .int .i64 0], .int .i64 0, .int .i64 0], []⟩ 8 (by kernel_rfl) (by kernel_rfl) (by kernel_rfl) (by kernel_rfl)) ?_
  intro W base args ds gs before hval0 hW hcnd _
  have hval : ∀ (j : Nat) t v, Try.f4.params[j]? = some t → args[j]? = some v → Value.okWide Try.prog W .any base t v := hval0
  have hW' := hW
  obtain ⟨p, q, hA0, hV, rfl, hfz, hnd⟩ := hW
  have hA : DataW.TrodAll enc Try.prog W 0 (fun _ => true) true Try.f4.params.toList args.toList ds p := hA0
  rw [Try.params4] at hA hval
  have hK := hA
  obtain ⟨v0, vs0, d0, ds0, p0, q0, hargs, rfl, hp, h0, r0⟩ := trodAll_cons hA
  obtain ⟨v1, vs1, d1, ds1, p1, q1, rfl, rfl, rfl, h1, r1⟩ := trodAll_cons r0
  obtain ⟨v2, vs2, d2, ds2, p2, q2, rfl, rfl, rfl, h2, r2⟩ := trodAll_cons r1
  obtain ⟨rfl, rfl, rfl⟩ := trodAll_nil r2
  obtain rfl : args = #[v0, v1, v2] := by cases args; simp_all
  obtain ⟨rfl, rfl⟩ := trodVars_none hV
  obtain ⟨os0, ot0, ok0, or0, oo0, rfl, hs0, hr0, ho0⟩ := P14.open_own (hval 0 23 v0 rfl rfl) h0
  obtain ⟨a1, rfl, rfl, rfl, w1⟩ := open_int Try.underlying3 (hval 1 3 v1 rfl rfl) h1
  obtain ⟨a2, rfl, rfl, rfl, w2⟩ := open_int Try.underlying3 (hval 2 3 v2 rfl rfl) h2
  clear hA0 hval0
  refine (GrabSleeps_walk W os0 ot0 ok0 or0 oo0 hs0 hr0 ho0 a1 (wfb w1) a2 (wfb w2)).mono fun e W' ⟨he, hg⟩ => ?_
  subst he
  exact ⟨_, rfl, post_below (pa := p) (pv := []) hW' (fun _ _ _ => (trodAll_cons_mk (shut_bool Try.underlying4 _) trodAll_mk0))
    (fun sp hs => trodAll_stays laidOut hg sp (by kernel_rfl) hK (fun x hx => hW'.lt x (List.mem_append_left _ hx)) (fun x hx => hs x (List.mem_append_left _ hx))) (fun _ _ => rfl) rfl
    hg (ok_one (by kernel_rfl) rfl (okWide_bool_mk Try.underlying4 _))⟩

theorem GrabSleeps_over : Rows.grabSleepsRow.holds Try.pinned (OpenSpec.ofChange Rows.grabSleepsSpec) :=
  OpenClaim.holds_of_wide 4 Try.f4 rfl rfl rfl rfl rfl rfl rfl ⟨rfl, rfl, rfl, rfl, rfl⟩ rfl rfl rfl rfl rfl (by kernel_rfl) Try.func4 (by kernel_rfl)
    (of_decide_eq_true (by kernel_rfl)) (by unfold Func.isWrapper; first | (rw [if_pos (by decide +kernel)]; kernel_rfl) | (rw [if_neg (by decide +kernel)]; exact ⟨rfl, rfl⟩))
    (fun os started H enc _ => GrabSleeps_lifted os started H enc)

/-- The statement. -/
theorem GrabSleeps_holds : Rows.GrabSleepsSaid :=
  GrabSleeps_over
#print axioms GrabSleeps_holds
end Go.Proofs.Ytddgihbgdlnlbaa
