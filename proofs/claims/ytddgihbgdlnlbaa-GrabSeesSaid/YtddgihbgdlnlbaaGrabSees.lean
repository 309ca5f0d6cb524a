/-
  Proved: deadboltlaw14.GrabSees returns true at every input (what may be remembered, what is at first, and of any whether he goes round, whether he wakes, what he wants, whether he has it, and what is handed to him, is as the document says, or refused). No condition.
-/
import Derived.Test.YtddgihbgdlnlbaaGrabAlive
import Derived.Test.YtddgihbgdlnlbaaGrabSpin
import Derived.Test.YtddgihbgdlnlbaaGrabRef
import Derived.Test.YtddgihbgdlnlbaaGrabRefB
import Derived.Test.YtddgihbgdlnlbaaOpenOwn
import Derived.Test.YtddgihbgdlnlbaaEnds
import Derived.Deep.DeepCutAuto
import Derived.Deep.RegionHeld3
namespace Go.Proofs.Ytddgihbgdlnlbaa
open Go.ChangeShapes Go.WideShapes Go.ChangeAt Go.RowKit Go.Deep
set_option linter.unusedVariables false
set_option linter.unusedSimpArgs false
set_option maxRecDepth 100000

open P14 P3 P4
section
variable {s r : Int} {t k a b c : Bool} {n u o : Int} {w : World}
/-- What the program's calls and the reference's answer of what is remembered. -/
structure SeesIs (s : Int) (t k : Bool) (r o u : Int) (R sp wk is : Bool) (e1 e2 N e3 e4 D e5 : Int) : Prop where
  h1 : ∀ w, Calls Try.prog 8 #[ov s t k r o, .int .i64 u] w fun e w' => e = .returned (.tuple #[.bool sp, .int .i64 e1]) ∧ Gr w w'
  h2 : ∀ w, Calls Try.prog 9 #[ov s t k r o] w fun e w' => e = .returned (.tuple #[.bool wk, .int .i64 e2]) ∧ Gr w w'
  h3 : ∀ w, Calls Try.prog 10 #[ov s t k r o] w fun e w' => e = .returned (.tuple #[.int .i64 N, .int .i64 e3]) ∧ Gr w w'
  h4 : ∀ w, Calls Try.prog 11 #[ov s t k r o] w fun e w' => e = .returned (.tuple #[.bool is, .int .i64 e4]) ∧ Gr w w'
  h5 : ∀ w, Calls Try.prog 12 #[ov s t k r o] w fun e w' => e = .returned (.tuple #[.int .i64 D, .int .i64 e5]) ∧ Gr w w'
  h6 : ∀ w, Calls Try.prog 13 #[ov s t k r o] w fun e w' => e = .returned (.bool R) ∧ Gr w w'
  h7 : ∀ w, Calls Try.prog 14 #[ov s t k r o] w fun e w' => e = .returned (.bool R) ∧ Gr w w'
/-- What the reference answers of what may be. -/
structure RefIs (s : Int) (t k : Bool) (r o : Int) (wk is : Bool) (N e3 D e5 : Int) : Prop where
  r2 : ∀ w, Calls Try.prog 21 #[ov s t k r o] w fun e w' => e = .returned (.bool wk) ∧ Gr w w'
  r3 : ∀ w, Calls Try.prog 19 #[ov s t k r o] w fun e w' => e = .returned (.tuple #[.int .i64 N, .int .i64 e3]) ∧ Gr w w'
  r4 : ∀ w, Calls Try.prog 22 #[ov s t k r o] w fun e w' => e = .returned (.bool is) ∧ Gr w w'
  r5 : ∀ w, Calls Try.prog 20 #[ov s t k r o] w fun e w' => e = .returned (.tuple #[.int .i64 D, .int .i64 e5]) ∧ Gr w w'
set_option maxHeartbeats 16000000 in
theorem GrabSees_bad (h : SeesIs s t k r o u false false false false 1 1 0 1 1 0 1) :
    Calls Try.prog 3 #[ov s t k r o, .int .i64 u] w fun e w' => e = .returned (.bool true) ∧ Gr w w' := by
  have H1 := fun w => Lib.hid (h.h1 w)
  have H2 := fun w => Lib.hid (h.h2 w)
  have H3 := fun w => Lib.hid (h.h3 w)
  have H4 := fun w => Lib.hid (h.h4 w)
  have H5 := fun w => Lib.hid (h.h5 w)
  have H6 := fun w => Lib.hid (h.h6 w)
  have H7 := fun w => Lib.hid (h.h7 w)
  have HFR := fun w => Lib.hid (Fresh_is (w := w))
  have HRF := fun w => Lib.hid (rFresh_is (w := w))
  have HAL := fun w => Lib.hid (alive_is w)
  have HNE : ∀ w, (binOp .neq 23 (ov (-1) false false 0 0) (ov (-1) false false 0 0)).run Try.prog w = .ok (.bool false) w := fun w => by kernel_rfl
  have HB := Lib.hid (Blk.new w #[.int .i64 s, .bool t, .bool k, .int .i64 r, .int .i64 o] 23)
  have HG := Lib.hid ((Gr.refl w).al (.cells #[.int .i64 s, .bool t, .bool k, .int .i64 r, .int .i64 o] 23))
  clear h
  go_enter Try.func3, Try.ntmps3
  go_wp2_with fail
  with_reducible refine (H1 _).out.mono ?_
  rintro e w1 ⟨rfl, g⟩
  replace HB := Lib.hid (HB.out.gr g)
  replace HG := Lib.hid (HG.out.trans g)
  clear g H1
  obtain ⟨⟨q0, q1, q2, q3, q4⟩, -⟩ := own_cells HB.out
  go_wp2_with fail
  with_reducible refine (H2 _).out.mono ?_
  rintro e w2 ⟨rfl, g⟩
  replace HB := Lib.hid (HB.out.gr g)
  replace HG := Lib.hid (HG.out.trans g)
  clear g q0 q1 q2 q3 q4 H2
  obtain ⟨⟨q0, q1, q2, q3, q4⟩, -⟩ := own_cells HB.out
  go_wp2_with fail
  with_reducible refine (H3 _).out.mono ?_
  rintro e w3 ⟨rfl, g⟩
  replace HB := Lib.hid (HB.out.gr g)
  replace HG := Lib.hid (HG.out.trans g)
  clear g q0 q1 q2 q3 q4 H3
  obtain ⟨⟨q0, q1, q2, q3, q4⟩, -⟩ := own_cells HB.out
  go_wp2_with fail
  with_reducible refine (H4 _).out.mono ?_
  rintro e w4 ⟨rfl, g⟩
  replace HB := Lib.hid (HB.out.gr g)
  replace HG := Lib.hid (HG.out.trans g)
  clear g q0 q1 q2 q3 q4 H4
  obtain ⟨⟨q0, q1, q2, q3, q4⟩, -⟩ := own_cells HB.out
  go_wp2_with fail
  with_reducible refine (H5 _).out.mono ?_
  rintro e w5 ⟨rfl, g⟩
  replace HB := Lib.hid (HB.out.gr g)
  replace HG := Lib.hid (HG.out.trans g)
  clear g q0 q1 q2 q3 q4 H5
  go_upto_region 6 with fail
  obtain ⟨⟨q0, q1, q2, q3, q4⟩, -⟩ := own_cells HB.out
  have bl := HB.out.lt
  go_region_held3 (fun W => W.cell? ⟨w.heap.size, 0, none⟩ = some (.int .i64 s) ∧ W.cell? ⟨w.heap.size, 1, none⟩ = some (.bool t) ∧ W.cell? ⟨w.heap.size, 2, none⟩ = some (.bool k) ∧ W.cell? ⟨w.heap.size, 3, none⟩ = some (.int .i64 r) ∧ W.cell? ⟨w.heap.size, 4, none⟩ = some (.int .i64 o) ∧ w.heap.size < W.heap.size ∧ Gr w5 W)
    (first | exact ⟨q0, q1, q2, q3, q4, bl, (Gr.refl w5).dr⟩ | assumption | (go_split_ands; exact ⟨(hb.cell (p := ⟨w.heap.size, 0, none⟩) (by assumption)).trans (by assumption), (hb.cell (p := ⟨w.heap.size, 1, none⟩) (by assumption)).trans (by assumption), (hb.cell (p := ⟨w.heap.size, 2, none⟩) (by assumption)).trans (by assumption), (hb.cell (p := ⟨w.heap.size, 3, none⟩) (by assumption)).trans (by assumption), (hb.cell (p := ⟨w.heap.size, 4, none⟩) (by assumption)).trans (by assumption), Nat.lt_of_lt_of_le (by assumption) hb.size, Gr.trans (by assumption) hb⟩))
    (first
      | (go_at_call 13; (with_reducible refine (H6 _).out.mono ?_); rintro ee w9 ⟨rfl, hb⟩)
      | (go_at_call 14; (with_reducible refine (H7 _).out.mono ?_); rintro ee w9 ⟨rfl, hb⟩)
      | (go_at_call 15; (with_reducible refine (HFR _).out.mono ?_); rintro ee w9 ⟨rfl, hb⟩)
      | (go_at_call 16; (with_reducible refine (HRF _).out.mono ?_); rintro ee w9 ⟨rfl, hb⟩)
      | (go_at_call 17; (with_reducible refine (HAL _).out.mono ?_); rintro ee w9 ⟨rfl, hb⟩))
  rename_i hH
  have G6 := hH.2.2.2.2.2.2
  replace HB := Lib.hid (HB.out.gr G6)
  replace HG := Lib.hid (HG.out.trans G6)
  clear hH G6 q0 q1 q2 q3 q4 bl H6 HFR HRF HAL HNE
  obtain ⟨⟨q0, q1, q2, q3, q4⟩, -⟩ := own_cells HB.out
  go_wp2_with fail
  with_reducible refine (H7 _).out.mono ?_
  rintro e w7 ⟨rfl, g⟩
  replace HB := Lib.hid (HB.out.gr g)
  replace HG := Lib.hid (HG.out.trans g)
  clear g q0 q1 q2 q3 q4 H7
  go_wp2_with fail
  go_ret
  exact ⟨rfl, HG.out⟩
set_option maxHeartbeats 16000000 in
theorem GrabSees_neg {sp wk is : Bool} {N e3 D e5 : Int} (h : SeesIs s t k r o u true false wk is 1 0 N e3 0 D e5) (h' : RefIs s t k r o wk is N e3 D e5) (hu : u < 0) :
    Calls Try.prog 3 #[ov s t k r o, .int .i64 u] w fun e w' => e = .returned (.bool true) ∧ Gr w w' := by
  have R2 := fun w => Lib.hid (h'.r2 w)
  have R3 := fun w => Lib.hid (h'.r3 w)
  have R4 := fun w => Lib.hid (h'.r4 w)
  have R5 := fun w => Lib.hid (h'.r5 w)
  clear h'
  have H1 := fun w => Lib.hid (h.h1 w)
  have H2 := fun w => Lib.hid (h.h2 w)
  have H3 := fun w => Lib.hid (h.h3 w)
  have H4 := fun w => Lib.hid (h.h4 w)
  have H5 := fun w => Lib.hid (h.h5 w)
  have H6 := fun w => Lib.hid (h.h6 w)
  have H7 := fun w => Lib.hid (h.h7 w)
  have HFR := fun w => Lib.hid (Fresh_is (w := w))
  have HRF := fun w => Lib.hid (rFresh_is (w := w))
  have HAL := fun w => Lib.hid (alive_is w)
  have HNE : ∀ w, (binOp .neq 23 (ov (-1) false false 0 0) (ov (-1) false false 0 0)).run Try.prog w = .ok (.bool false) w := fun w => by kernel_rfl
  have HB := Lib.hid (Blk.new w #[.int .i64 s, .bool t, .bool k, .int .i64 r, .int .i64 o] 23)
  have HG := Lib.hid ((Gr.refl w).al (.cells #[.int .i64 s, .bool t, .bool k, .int .i64 r, .int .i64 o] 23))
  clear h
  go_enter Try.func3, Try.ntmps3
  go_wp2_with fail
  with_reducible refine (H1 _).out.mono ?_
  rintro e w1 ⟨rfl, g⟩
  replace HB := Lib.hid (HB.out.gr g)
  replace HG := Lib.hid (HG.out.trans g)
  clear g H1
  obtain ⟨⟨q0, q1, q2, q3, q4⟩, -⟩ := own_cells HB.out
  go_wp2_with fail
  with_reducible refine (H2 _).out.mono ?_
  rintro e w2 ⟨rfl, g⟩
  replace HB := Lib.hid (HB.out.gr g)
  replace HG := Lib.hid (HG.out.trans g)
  clear g q0 q1 q2 q3 q4 H2
  obtain ⟨⟨q0, q1, q2, q3, q4⟩, -⟩ := own_cells HB.out
  go_wp2_with fail
  with_reducible refine (H3 _).out.mono ?_
  rintro e w3 ⟨rfl, g⟩
  replace HB := Lib.hid (HB.out.gr g)
  replace HG := Lib.hid (HG.out.trans g)
  clear g q0 q1 q2 q3 q4 H3
  obtain ⟨⟨q0, q1, q2, q3, q4⟩, -⟩ := own_cells HB.out
  go_wp2_with fail
  with_reducible refine (H4 _).out.mono ?_
  rintro e w4 ⟨rfl, g⟩
  replace HB := Lib.hid (HB.out.gr g)
  replace HG := Lib.hid (HG.out.trans g)
  clear g q0 q1 q2 q3 q4 H4
  obtain ⟨⟨q0, q1, q2, q3, q4⟩, -⟩ := own_cells HB.out
  go_wp2_with fail
  with_reducible refine (H5 _).out.mono ?_
  rintro e w5 ⟨rfl, g⟩
  replace HB := Lib.hid (HB.out.gr g)
  replace HG := Lib.hid (HG.out.trans g)
  clear g q0 q1 q2 q3 q4 H5
  go_upto_region 6 with fail
  obtain ⟨⟨q0, q1, q2, q3, q4⟩, -⟩ := own_cells HB.out
  have bl := HB.out.lt
  go_region_held3 (fun W => W.cell? ⟨w.heap.size, 0, none⟩ = some (.int .i64 s) ∧ W.cell? ⟨w.heap.size, 1, none⟩ = some (.bool t) ∧ W.cell? ⟨w.heap.size, 2, none⟩ = some (.bool k) ∧ W.cell? ⟨w.heap.size, 3, none⟩ = some (.int .i64 r) ∧ W.cell? ⟨w.heap.size, 4, none⟩ = some (.int .i64 o) ∧ w.heap.size < W.heap.size ∧ Gr w5 W)
    (first | exact ⟨q0, q1, q2, q3, q4, bl, (Gr.refl w5).dr⟩ | assumption | (go_split_ands; exact ⟨(hb.cell (p := ⟨w.heap.size, 0, none⟩) (by assumption)).trans (by assumption), (hb.cell (p := ⟨w.heap.size, 1, none⟩) (by assumption)).trans (by assumption), (hb.cell (p := ⟨w.heap.size, 2, none⟩) (by assumption)).trans (by assumption), (hb.cell (p := ⟨w.heap.size, 3, none⟩) (by assumption)).trans (by assumption), (hb.cell (p := ⟨w.heap.size, 4, none⟩) (by assumption)).trans (by assumption), Nat.lt_of_lt_of_le (by assumption) hb.size, Gr.trans (by assumption) hb⟩))
    (first
      | (go_at_call 13; (with_reducible refine (H6 _).out.mono ?_); rintro ee w9 ⟨rfl, hb⟩)
      | (go_at_call 14; (with_reducible refine (H7 _).out.mono ?_); rintro ee w9 ⟨rfl, hb⟩)
      | (go_at_call 15; (with_reducible refine (HFR _).out.mono ?_); rintro ee w9 ⟨rfl, hb⟩)
      | (go_at_call 16; (with_reducible refine (HRF _).out.mono ?_); rintro ee w9 ⟨rfl, hb⟩)
      | (go_at_call 17; (with_reducible refine (HAL _).out.mono ?_); rintro ee w9 ⟨rfl, hb⟩))
  rename_i hH
  have G6 := hH.2.2.2.2.2.2
  replace HB := Lib.hid (HB.out.gr G6)
  replace HG := Lib.hid (HG.out.trans G6)
  clear hH G6 q0 q1 q2 q3 q4 bl H6 HFR HRF HAL HNE
  obtain ⟨⟨q0, q1, q2, q3, q4⟩, -⟩ := own_cells HB.out
  go_wp2_with fail
  with_reducible refine (H7 _).out.mono ?_
  rintro e w7 ⟨rfl, g⟩
  replace HB := Lib.hid (HB.out.gr g)
  replace HG := Lib.hid (HG.out.trans g)
  clear g q0 q1 q2 q3 q4 H7
  obtain ⟨⟨q0, q1, q2, q3, q4⟩, -⟩ := own_cells HB.out
  go_wp2_with fail
  with_reducible refine (R3 _).out.mono ?_
  rintro e w9 ⟨rfl, g⟩
  replace HB := Lib.hid (HB.out.gr g)
  replace HG := Lib.hid (HG.out.trans g)
  clear g q0 q1 q2 q3 q4 R3
  obtain ⟨⟨q0, q1, q2, q3, q4⟩, -⟩ := own_cells HB.out
  go_wp2_with fail
  with_reducible refine (R5 _).out.mono ?_
  rintro e w10 ⟨rfl, g⟩
  replace HB := Lib.hid (HB.out.gr g)
  replace HG := Lib.hid (HG.out.trans g)
  clear g q0 q1 q2 q3 q4 R5
  obtain ⟨⟨q0, q1, q2, q3, q4⟩, -⟩ := own_cells HB.out
  go_wp2_with fail
  with_reducible refine (R2 _).out.mono ?_
  rintro e w11 ⟨rfl, g⟩
  replace HB := Lib.hid (HB.out.gr g)
  replace HG := Lib.hid (HG.out.trans g)
  clear g q0 q1 q2 q3 q4 R2
  obtain ⟨⟨q0, q1, q2, q3, q4⟩, -⟩ := own_cells HB.out
  go_wp2_with fail
  with_reducible refine (R4 _).out.mono ?_
  rintro e w12 ⟨rfl, g⟩
  replace HB := Lib.hid (HB.out.gr g)
  replace HG := Lib.hid (HG.out.trans g)
  clear g q0 q1 q2 q3 q4 R4
  obtain ⟨⟨q0, q1, q2, q3, q4⟩, -⟩ := own_cells HB.out
  go_wp2_with fail
  go_ret
  exact ⟨by simp, HG.out⟩
set_option maxHeartbeats 16000000 in
theorem GrabSees_yes {sp wk is : Bool} {N e3 D e5 : Int} (h : SeesIs s t k r o u true sp wk is 0 0 N e3 0 D e5) (h' : RefIs s t k r o wk is N e3 D e5) (hu : ¬ u < 0) (hs : ∀ w, Calls Try.prog 18 #[ov s t k r o, .int .i64 u] w fun e w' => e = .returned (.bool sp) ∧ Gr w w') :
    Calls Try.prog 3 #[ov s t k r o, .int .i64 u] w fun e w' => e = .returned (.bool true) ∧ Gr w w' := by
  have R2 := fun w => Lib.hid (h'.r2 w)
  have R3 := fun w => Lib.hid (h'.r3 w)
  have R4 := fun w => Lib.hid (h'.r4 w)
  have R5 := fun w => Lib.hid (h'.r5 w)
  have R1 := fun w => Lib.hid (hs w)
  clear hs
  clear h'
  have H1 := fun w => Lib.hid (h.h1 w)
  have H2 := fun w => Lib.hid (h.h2 w)
  have H3 := fun w => Lib.hid (h.h3 w)
  have H4 := fun w => Lib.hid (h.h4 w)
  have H5 := fun w => Lib.hid (h.h5 w)
  have H6 := fun w => Lib.hid (h.h6 w)
  have H7 := fun w => Lib.hid (h.h7 w)
  have HFR := fun w => Lib.hid (Fresh_is (w := w))
  have HRF := fun w => Lib.hid (rFresh_is (w := w))
  have HAL := fun w => Lib.hid (alive_is w)
  have HNE : ∀ w, (binOp .neq 23 (ov (-1) false false 0 0) (ov (-1) false false 0 0)).run Try.prog w = .ok (.bool false) w := fun w => by kernel_rfl
  have HB := Lib.hid (Blk.new w #[.int .i64 s, .bool t, .bool k, .int .i64 r, .int .i64 o] 23)
  have HG := Lib.hid ((Gr.refl w).al (.cells #[.int .i64 s, .bool t, .bool k, .int .i64 r, .int .i64 o] 23))
  clear h
  go_enter Try.func3, Try.ntmps3
  go_wp2_with fail
  with_reducible refine (H1 _).out.mono ?_
  rintro e w1 ⟨rfl, g⟩
  replace HB := Lib.hid (HB.out.gr g)
  replace HG := Lib.hid (HG.out.trans g)
  clear g H1
  obtain ⟨⟨q0, q1, q2, q3, q4⟩, -⟩ := own_cells HB.out
  go_wp2_with fail
  with_reducible refine (H2 _).out.mono ?_
  rintro e w2 ⟨rfl, g⟩
  replace HB := Lib.hid (HB.out.gr g)
  replace HG := Lib.hid (HG.out.trans g)
  clear g q0 q1 q2 q3 q4 H2
  obtain ⟨⟨q0, q1, q2, q3, q4⟩, -⟩ := own_cells HB.out
  go_wp2_with fail
  with_reducible refine (H3 _).out.mono ?_
  rintro e w3 ⟨rfl, g⟩
  replace HB := Lib.hid (HB.out.gr g)
  replace HG := Lib.hid (HG.out.trans g)
  clear g q0 q1 q2 q3 q4 H3
  obtain ⟨⟨q0, q1, q2, q3, q4⟩, -⟩ := own_cells HB.out
  go_wp2_with fail
  with_reducible refine (H4 _).out.mono ?_
  rintro e w4 ⟨rfl, g⟩
  replace HB := Lib.hid (HB.out.gr g)
  replace HG := Lib.hid (HG.out.trans g)
  clear g q0 q1 q2 q3 q4 H4
  obtain ⟨⟨q0, q1, q2, q3, q4⟩, -⟩ := own_cells HB.out
  go_wp2_with fail
  with_reducible refine (H5 _).out.mono ?_
  rintro e w5 ⟨rfl, g⟩
  replace HB := Lib.hid (HB.out.gr g)
  replace HG := Lib.hid (HG.out.trans g)
  clear g q0 q1 q2 q3 q4 H5
  go_upto_region 6 with fail
  obtain ⟨⟨q0, q1, q2, q3, q4⟩, -⟩ := own_cells HB.out
  have bl := HB.out.lt
  go_region_held3 (fun W => W.cell? ⟨w.heap.size, 0, none⟩ = some (.int .i64 s) ∧ W.cell? ⟨w.heap.size, 1, none⟩ = some (.bool t) ∧ W.cell? ⟨w.heap.size, 2, none⟩ = some (.bool k) ∧ W.cell? ⟨w.heap.size, 3, none⟩ = some (.int .i64 r) ∧ W.cell? ⟨w.heap.size, 4, none⟩ = some (.int .i64 o) ∧ w.heap.size < W.heap.size ∧ Gr w5 W)
    (first | exact ⟨q0, q1, q2, q3, q4, bl, (Gr.refl w5).dr⟩ | assumption | (go_split_ands; exact ⟨(hb.cell (p := ⟨w.heap.size, 0, none⟩) (by assumption)).trans (by assumption), (hb.cell (p := ⟨w.heap.size, 1, none⟩) (by assumption)).trans (by assumption), (hb.cell (p := ⟨w.heap.size, 2, none⟩) (by assumption)).trans (by assumption), (hb.cell (p := ⟨w.heap.size, 3, none⟩) (by assumption)).trans (by assumption), (hb.cell (p := ⟨w.heap.size, 4, none⟩) (by assumption)).trans (by assumption), Nat.lt_of_lt_of_le (by assumption) hb.size, Gr.trans (by assumption) hb⟩))
    (first
      | (go_at_call 13; (with_reducible refine (H6 _).out.mono ?_); rintro ee w9 ⟨rfl, hb⟩)
      | (go_at_call 14; (with_reducible refine (H7 _).out.mono ?_); rintro ee w9 ⟨rfl, hb⟩)
      | (go_at_call 15; (with_reducible refine (HFR _).out.mono ?_); rintro ee w9 ⟨rfl, hb⟩)
      | (go_at_call 16; (with_reducible refine (HRF _).out.mono ?_); rintro ee w9 ⟨rfl, hb⟩)
      | (go_at_call 17; (with_reducible refine (HAL _).out.mono ?_); rintro ee w9 ⟨rfl, hb⟩))
  rename_i hH
  have G6 := hH.2.2.2.2.2.2
  replace HB := Lib.hid (HB.out.gr G6)
  replace HG := Lib.hid (HG.out.trans G6)
  clear hH G6 q0 q1 q2 q3 q4 bl H6 HFR HRF HAL HNE
  obtain ⟨⟨q0, q1, q2, q3, q4⟩, -⟩ := own_cells HB.out
  go_wp2_with fail
  with_reducible refine (H7 _).out.mono ?_
  rintro e w7 ⟨rfl, g⟩
  replace HB := Lib.hid (HB.out.gr g)
  replace HG := Lib.hid (HG.out.trans g)
  clear g q0 q1 q2 q3 q4 H7
  obtain ⟨⟨q0, q1, q2, q3, q4⟩, -⟩ := own_cells HB.out
  go_wp2_with fail
  with_reducible refine (R1 _).out.mono ?_
  rintro e w8 ⟨rfl, g⟩
  replace HB := Lib.hid (HB.out.gr g)
  replace HG := Lib.hid (HG.out.trans g)
  clear g q0 q1 q2 q3 q4 R1
  obtain ⟨⟨q0, q1, q2, q3, q4⟩, -⟩ := own_cells HB.out
  go_wp2_with fail
  with_reducible refine (R3 _).out.mono ?_
  rintro e w9 ⟨rfl, g⟩
  replace HB := Lib.hid (HB.out.gr g)
  replace HG := Lib.hid (HG.out.trans g)
  clear g q0 q1 q2 q3 q4 R3
  obtain ⟨⟨q0, q1, q2, q3, q4⟩, -⟩ := own_cells HB.out
  go_wp2_with fail
  with_reducible refine (R5 _).out.mono ?_
  rintro e w10 ⟨rfl, g⟩
  replace HB := Lib.hid (HB.out.gr g)
  replace HG := Lib.hid (HG.out.trans g)
  clear g q0 q1 q2 q3 q4 R5
  obtain ⟨⟨q0, q1, q2, q3, q4⟩, -⟩ := own_cells HB.out
  go_wp2_with fail
  with_reducible refine (R2 _).out.mono ?_
  rintro e w11 ⟨rfl, g⟩
  replace HB := Lib.hid (HB.out.gr g)
  replace HG := Lib.hid (HG.out.trans g)
  clear g q0 q1 q2 q3 q4 R2
  obtain ⟨⟨q0, q1, q2, q3, q4⟩, -⟩ := own_cells HB.out
  go_wp2_with fail
  with_reducible refine (R4 _).out.mono ?_
  rintro e w12 ⟨rfl, g⟩
  replace HB := Lib.hid (HB.out.gr g)
  replace HG := Lib.hid (HG.out.trans g)
  clear g q0 q1 q2 q3 q4 R4
  obtain ⟨⟨q0, q1, q2, q3, q4⟩, -⟩ := own_cells HB.out
  go_wp2_with fail
  go_ret
  exact ⟨by simp, HG.out⟩
/-- What Spins answers of who runs. -/
theorem can_any {r u : Int} (h0 : 0 ≤ r) (h4 : r ≤ 4) (hu : ¬ u < 0) : ∃ v : Bool, (∀ W, Calls Try.prog 35 #[.int .i64 r, .int .i64 u] W fun e w' => e = .returned (.tuple #[.bool v, .int .i64 0]) ∧ w' = W) ∧
    (∀ W, Calls Try.prog 47 #[.int .i64 r, .int .i64 u] W fun e w' => e = .returned (.bool v) ∧ w' = W) := by
  by_cases h : r < 4
  · exact ⟨decide (1 < u), fun W => P6.Can_few (by omega) h rfl W, fun W => P6.rCan_few h rfl W⟩
  · exact ⟨false, fun W => P6.Can_many (by omega) h W, fun W => P6.rCan_many h W⟩
theorem sees_any {N e3 D e5 : Int} (h : OkS s r) (hn : OkN n)
    (h3 : ∀ w, Calls Try.prog 10 #[ov s t k r (pw a b c n)] w fun e w' => e = .returned (.tuple #[.int .i64 N, .int .i64 e3]) ∧ Gr w w')
    (r3 : ∀ w, Calls Try.prog 19 #[ov s t k r (pw a b c n)] w fun e w' => e = .returned (.tuple #[.int .i64 N, .int .i64 e3]) ∧ Gr w w')
    (h5 : ∀ w, Calls Try.prog 12 #[ov s t k r (pw a b c n)] w fun e w' => e = .returned (.tuple #[.int .i64 D, .int .i64 e5]) ∧ Gr w w')
    (r5 : ∀ w, Calls Try.prog 20 #[ov s t k r (pw a b c n)] w fun e w' => e = .returned (.tuple #[.int .i64 D, .int .i64 e5]) ∧ Gr w w') (w : World) :
    Calls Try.prog 3 #[ov s t k r (pw a b c n), .int .i64 u] w fun e w' => e = .returned (.bool true) ∧ Gr w w' := by
  have ho : OkW (pw a b c n) := by
    obtain ⟨x, hx, hl⟩ := P3.pw_nat a b c n hn
    unfold OkW
    omega
  have h' : RefIs s t k r (pw a b c n) (!k && !b && decide (0 < n)) (!a && !c) N e3 D e5 := ⟨fun w => rWakes_is hn, r3, fun w => rGot_is hn, r5⟩
  by_cases hu : u < 0
  · refine GrabSees_neg (sp := false) ⟨fun w => ?_, fun w => Wakes_yes h hn, h3, fun w => Got_yes h hn, h5, fun w => Right_yes fun W => look_ok h hn, fun w => rRight_yes h ho⟩ h' hu
    exact SpinsN fun W g i B D => Spins_bad B D (fun W => look_ok h hn) fun W => P6.Can_no (.inr hu) W
  · obtain ⟨v, c1, c2⟩ := can_any h.2.1 h.2.2 hu
    refine GrabSees_yes (sp := v && (a && !c)) ⟨fun w => ?_, fun w => Wakes_yes h hn, h3, fun w => Got_yes h hn, h5, fun w => Right_yes fun W => look_ok h hn, fun w => rRight_yes h ho⟩ h' hu (fun w => rSpins_is hn c2)
    refine SpinsB fun W g i B D => ?_
    cases v
    · exact Spins_no B D (fun W => look_ok h hn) c1
    · exact (Spins_yes B D (fun W => look_ok h hn) c1).mono fun e w' ⟨he, hg⟩ => ⟨by rw [he]; simp, hg⟩
end
theorem GrabSees_walk (w : World) (s : Int) (t k : Bool) (r o : Int) (hs : P14.B64 s) (hr : P14.B64 r) (ho : P14.B64 o) (u : Int) (hu : -9223372036854775808 ≤ u ∧ u ≤ 9223372036854775807) :
    Calls Try.prog 3 #[ov s t k r o, .int .i64 u] w fun e w' => e = .returned (.bool true) ∧ Gr w w' := by
  by_cases h : OkS s r ∧ OkW o
  · obtain ⟨a, b, c, n, rfl, hn⟩ := P3.pw_of h.2
    have h5 : ∃ D e5, (∀ w, Calls Try.prog 12 #[ov s t k r (pw a b c n)] w fun e w' => e = .returned (.tuple #[.int .i64 D, .int .i64 e5]) ∧ Gr w w') ∧
        (∀ w, Calls Try.prog 20 #[ov s t k r (pw a b c n)] w fun e w' => e = .returned (.tuple #[.int .i64 D, .int .i64 e5]) ∧ Gr w w') := by
      by_cases hb : a = false ∧ b = false ∧ 0 < n
      · obtain ⟨rfl, rfl, h0⟩ := hb
        exact ⟨_, _, fun w => Handed_yes h.1 hn h0, fun w => rHanded_ok hn h0⟩
      · exact ⟨_, _, fun w => Handed_broken h.1 hn hb, fun w => rHanded_no hn hb⟩
    obtain ⟨D, e5, h5, r5⟩ := h5
    by_cases hb : b = true ∨ k = false
    · by_cases hm : OkN (n + more a c)
      · exact sees_any h.1 hn (fun w => Wants_yes h.1 hn hb hm) (fun w => rWants_is (Mb := true) hn hb (by simpa using hm)) h5 r5 w
      · have hac : (a || c) = true := by
          cases q : (a || c)
          · have e : more a c = 0 := by unfold more; rw [q]; rfl
            rw [e, Int.add_zero] at hm
            exact absurd hn hm
          · rfl
        have hm' : ¬ OkN (n + 1) := by
          have e : more a c = 1 := by unfold more; rw [hac]; rfl
          rw [e] at hm; exact hm
        exact sees_any h.1 hn (fun w => Wants_over h.1 hn hb hac hm') (fun w => rWants_is (Mb := false) hn hb (by simpa using hm)) h5 r5 w
    · obtain ⟨rfl, rfl⟩ : b = false ∧ k = true := by cases b <;> cases k <;> simp_all
      exact sees_any h.1 hn (fun w => Wants_broken h.1 hn) (fun w => rWants_broken hn) h5 r5 w
  · refine GrabSees_bad ⟨fun w => ?_, fun w => Wakes_bad h, fun w => Wants_bad h, fun w => Got_bad h, fun w => Handed_bad h, fun w => Right_no (y := 1) (by decide) fun W => look_no h, fun w => rRight_no h⟩
    exact SpinsN fun W g i B D => Spins_up B D fun W => look_no h
set_option maxRecDepth 100000 in
theorem GrabSees_lifted (os : Os) (started : os.Started) (H : Type) (enc : TypeId × Value → H) :
    ReturnsInHanded {} Try.checked os 3 .any (Rows.grabSeesSpec.pre6 enc Try.prog Try.f3 Rows.grabSeesRow.domain false) (Rows.grabSeesSpec.post enc Try.prog Try.f3 false true false false) := by
  refine returnsInHanded_of_change (C := Try.checked) own started (by kernel_rfl) Try.func3
    (ChangeSpec.witness6 (enc := enc) (C := Try.checked) false ⟨#[], #[.agg #[.int .i64 0, .bool false, .bool false, .int .i64 0, .int .i64 0], .int .i64 0], []⟩ 8 (by kernel_rfl) (by kernel_rfl) (by kernel_rfl) (by kernel_rfl)) ?_
  intro W base args ds gs before hval0 hW hcnd _
  have hval : ∀ (j : Nat) t v, Try.f3.params[j]? = some t → args[j]? = some v → Value.okWide Try.prog W .any base t v := hval0
  have hW' := hW
  obtain ⟨p, q, hA0, hV, rfl, hfz, hnd⟩ := hW
  have hA : DataW.TrodAll enc Try.prog W 0 (fun _ => true) true Try.f3.params.toList args.toList ds p := hA0
  rw [Try.params3] at hA hval
  have hK := hA
  obtain ⟨v0, vs0, d0, ds0, p0, q0, hargs, rfl, hp, h0, r0⟩ := trodAll_cons hA
  obtain ⟨v1, vs1, d1, ds1, p1, q1, rfl, rfl, rfl, h1, r1⟩ := trodAll_cons r0
  obtain ⟨rfl, rfl, rfl⟩ := trodAll_nil r1
  obtain rfl : args = #[v0, v1] := by cases args; simp_all
  obtain ⟨rfl, rfl⟩ := trodVars_none hV
  obtain ⟨os0, ot0, ok0, or0, oo0, rfl, hs0, hr0, ho0⟩ := P14.open_own (hval 0 23 v0 rfl rfl) h0
  obtain ⟨a1, rfl, rfl, rfl, w1⟩ := open_int Try.underlying3 (hval 1 3 v1 rfl rfl) h1
  clear hA0 hval0
  refine (GrabSees_walk W os0 ot0 ok0 or0 oo0 hs0 hr0 ho0 a1 (wfb w1)).mono fun e W' ⟨he, hg⟩ => ?_
  subst he
  exact ⟨_, rfl, post_below (pa := p) (pv := []) hW' (fun _ _ _ => (trodAll_cons_mk (shut_bool Try.underlying4 _) trodAll_mk0))
    (fun sp hs => trodAll_stays laidOut hg sp (by kernel_rfl) hK (fun x hx => hW'.lt x (List.mem_append_left _ hx)) (fun x hx => hs x (List.mem_append_left _ hx))) (fun _ _ => rfl) rfl
    hg (ok_one (by kernel_rfl) rfl (okWide_bool_mk Try.underlying4 _))⟩

theorem GrabSees_over : Rows.grabSeesRow.holds Try.pinned (OpenSpec.ofChange Rows.grabSeesSpec) :=
  OpenClaim.holds_of_wide 3 Try.f3 rfl rfl rfl rfl rfl rfl rfl ⟨rfl, rfl, rfl, rfl, rfl⟩ rfl rfl rfl rfl rfl (by kernel_rfl) Try.func3 (by kernel_rfl)
    (of_decide_eq_true (by kernel_rfl)) (by unfold Func.isWrapper; first | (rw [if_pos (by decide +kernel)]; kernel_rfl) | (rw [if_neg (by decide +kernel)]; exact ⟨rfl, rfl⟩))
    (fun os started H enc _ => GrabSees_lifted os started H enc)

/-- The statement. -/
theorem GrabSees_holds : Rows.GrabSeesSaid :=
  GrabSees_over
#print axioms GrabSees_holds
end Go.Proofs.Ytddgihbgdlnlbaa
