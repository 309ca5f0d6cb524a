/-
  Proved: deadboltlaw06.SpinTells returns true at every input (whether anybody may go round, which tickets may be, and any drawn, asked, and served, is as the document says, or refused). No condition.
-/
import Derived.Test.YtibbndoohpfbmaaSpinRef
import Derived.Deep.RegionHeld3
namespace Go.Proofs.Ytibbndoohpfbmaa
open Go.ChangeShapes Go.WideShapes Go.ChangeAt Go.RowKit
set_option linter.unusedVariables false

/-- What Can tells. -/
def CanIs (a b : Int) (v : Bool) (q : Int) : Prop :=
  (a < 0 ∧ v = false ∧ q = 1) ∨ (¬ a < 0 ∧ b < 0 ∧ v = false ∧ q = 1) ∨ (¬ a < 0 ∧ ¬ b < 0 ∧ q = 0 ∧ ∀ w, Calls Try.prog 14 #[.int .i64 a, .int .i64 b] w fun e w' => e = .returned (.bool v) ∧ w' = w)
theorem Can_any (a b : Int) : ∃ v q, CanIs a b v q ∧ ∀ w, Calls Try.prog 6 #[.int .i64 a, .int .i64 b] w fun e w' => e = .returned (.tuple #[.bool v, .int .i64 q]) ∧ w' = w := by
  by_cases ha : a < 0
  · exact ⟨false, 1, .inl ⟨ha, rfl, rfl⟩, Can_no (.inl ha)⟩
  · by_cases hb : b < 0
    · exact ⟨false, 1, .inr (.inl ⟨ha, hb, rfl, rfl⟩), Can_no (.inr hb)⟩
    · by_cases h4 : a < 4
      · exact ⟨_, 0, .inr (.inr ⟨ha, hb, rfl, rCan_few h4 rfl⟩), Can_few (by omega) h4 rfl⟩
      · exact ⟨_, 0, .inr (.inr ⟨ha, hb, rfl, rCan_many h4⟩), Can_many (by omega) h4⟩
set_option maxHeartbeats 8000000 in
set_option maxRecDepth 100000 in
theorem tells_no (w : World) (a b n s mine : Int) (hn : B64 n) (hs : B64 s) (h : tkB n s = false) :
    Calls Try.prog 3 #[.int .i64 a, .int .i64 b, .agg #[.int .i64 n, .int .i64 s], .int .i64 mine] w fun e w' => e = .returned (.bool true) ∧ Gr w w' := by
  obtain ⟨v, q, hcan, hC⟩ := Can_any a b
  have cC := fun w => Lib.hid (hC w)
  obtain ⟨x, hx⟩ : ∃ x, up1 n = x := ⟨_, rfl⟩
  obtain ⟨y, hy⟩ : ∃ y, up1 s = y := ⟨_, rfl⟩
  obtain ⟨V, hV⟩ : ∃ V, (mine == s) = V := ⟨_, rfl⟩
  obtain ⟨o, hO⟩ : ∃ o, outT n s = o := ⟨_, rfl⟩
  have cD := fun w => Lib.hid (Draw_is (n := n) (s := s) (a := 0) (b := 0) (m := 0) (q := 1) (.inl ⟨h, rfl, rfl, rfl, rfl⟩) hn hs w)
  have cE := fun w => Lib.hid (Done_is (n := n) (s := s) (a := 0) (b := 0) (q := 1) (.inl ⟨h, rfl, rfl, rfl⟩) hn hs w)
  have cR := fun w => Lib.hid (Right_is h hn hs w)
  have cr := fun w => Lib.hid (rRight_is h w)
  have cT := fun w => Lib.hid (Turn_is (m := mine) (.inr ⟨h, rfl, rfl⟩) hn hs w)
  have cO := fun w => Lib.hid (Out_is (.inr ⟨h, rfl, rfl⟩) hn hs w)
  clear hV hx hy hO h hC
  go_enter Try.func3, Try.ntmps3
  go_wp2_with fail
  refine (cC _).out.mono ?_
  rintro e w1 ⟨rfl, rfl⟩
  go_wp2_with fail
  refine (cD _).out.mono ?_
  rintro e w2 ⟨rfl, h0⟩
  have T2 := (Two.new w n s).gr h0
  have G2 := ((Gr.refl w).al (.cells #[.int .i64 n, .int .i64 s] 23)).trans h0
  obtain ⟨q0, q1⟩ := T2.cells
  have ne2 := T2.lt
  go_wp2_with fail
  refine (cT _).out.mono ?_
  rintro e w3 ⟨rfl, hb3⟩
  have g3 := ((Gr.refl w2).al (.cells #[.int .i64 0, .int .i64 0] 23)).trans hb3
  have T3 := T2.gr g3
  have A3 := (Two.new w2 0 0).gr hb3
  have G3 := G2.trans g3
  clear q0 q1 T2 G2 g3 h0 hb3 ne2
  obtain ⟨q0, q1⟩ := T3.cells
  go_wp2_with fail
  refine (cE _).out.mono ?_
  rintro e w4 ⟨rfl, hb4⟩
  have T4 := T3.gr hb4
  have A4 := A3.gr hb4
  have G4 := G3.trans hb4
  clear q0 q1 T3 G3 A3 hb4
  obtain ⟨q0, q1⟩ := T4.cells
  have ne4 := T4.lt
  go_wp2_with fail
  refine (cO _).out.mono ?_
  rintro e w5 ⟨rfl, hb5⟩
  have g5 := ((Gr.refl w4).al (.cells #[.int .i64 0, .int .i64 0] 23)).trans hb5
  have h6 := ((Gr.refl w5).al (.cells #[.int .i64 0, .int .i64 0] 23))
  have g6 := g5.trans h6
  have T6 := T4.gr g6
  have A6 := A4.gr g6
  have B6 := ((Two.new w4 0 0).gr hb5).gr h6
  have N6 := Two.new w5 0 0
  have G6 := (G4.trans g6).dr
  clear q0 q1 T4 G4 A4 g5 g6 h6 hb5 ne4
  go_wp2_with fail
  go_region_held3 (fun w' => w'.cell? ⟨w.heap.size, 0, none⟩ = some (.int .i64 n) ∧ w'.cell? ⟨w.heap.size, 1, none⟩ = some (.int .i64 s) ∧ Two w' w.heap.size n s ∧ Two w' w2.heap.size 0 0 ∧ Two w' w4.heap.size 0 0 ∧ Two w' w5.heap.size 0 0 ∧ Gr w w')
    (first
      | exact ⟨T6.cells.1, T6.cells.2, T6, A6, B6, N6, G6⟩
      | (go_split_ands; exact ⟨(Two.gr (g := w.heap.size) (n := n) (s := s) (by assumption) hb9).cells.1, (Two.gr (g := w.heap.size) (n := n) (s := s) (by assumption) hb9).cells.2, Two.gr (by assumption) hb9, Two.gr (by assumption) hb9, Two.gr (by assumption) hb9, Two.gr (by assumption) hb9, Gr.trans (by assumption) hb9⟩))
    (first
      | (go_at_call 11; refine (cR _).out.mono ?_; rintro ee w9 ⟨rfl, hb9⟩)
      | (go_at_call 12; refine (cr _).out.mono ?_; rintro ee w9 ⟨rfl, hb9⟩)
      | (go_at_call 13; refine (alive6_ok _).mono ?_; rintro ee w9 ⟨rfl, hb9⟩))
  rename_i hH
  obtain ⟨-, -, T, A, B, N, G⟩ := hH
  clear T6 A6 B6 N6 G6
  rcases hcan with ⟨p1, rfl, rfl⟩ | ⟨p1, p2, rfl, rfl⟩ | ⟨p1, p2, rfl, hCr⟩
  · obtain ⟨x0, x1⟩ := T.cells
    go_wp2_with fail
    refine (cr _).out.mono ?_
    rintro e v1 ⟨rfl, hb⟩
    clear x0 x1
    replace T := T.gr hb
    replace A := A.gr hb
    replace B := B.gr hb
    replace N := N.gr hb
    replace G := G.trans hb
    clear hb
    obtain ⟨x0, x1⟩ := T.cells
    obtain ⟨ac0, ac1⟩ := A.cells
    obtain ⟨bc0, bc1⟩ := B.cells
    obtain ⟨nc0, nc1⟩ := N.cells
    go_wp2_with fail
    go_ret
    exact ⟨rfl, G⟩
  · obtain ⟨x0, x1⟩ := T.cells
    go_wp2_with fail
    refine (cr _).out.mono ?_
    rintro e v1 ⟨rfl, hb⟩
    clear x0 x1
    replace T := T.gr hb
    replace A := A.gr hb
    replace B := B.gr hb
    replace N := N.gr hb
    replace G := G.trans hb
    clear hb
    obtain ⟨x0, x1⟩ := T.cells
    obtain ⟨ac0, ac1⟩ := A.cells
    obtain ⟨bc0, bc1⟩ := B.cells
    obtain ⟨nc0, nc1⟩ := N.cells
    go_wp2_with fail
    go_ret
    exact ⟨rfl, G⟩
  · have cc := fun w => Lib.hid (hCr w)
    clear hCr
    have tv : (v != v) = false := by cases v <;> rfl
    go_wp2_with fail
    refine (cc _).out.mono ?_
    rintro e v0 ⟨rfl, rfl⟩
    obtain ⟨x0, x1⟩ := T.cells
    go_wp2_with fail
    refine (cr _).out.mono ?_
    rintro e v1 ⟨rfl, hb⟩
    clear x0 x1
    replace T := T.gr hb
    replace A := A.gr hb
    replace B := B.gr hb
    replace N := N.gr hb
    replace G := G.trans hb
    clear hb
    obtain ⟨x0, x1⟩ := T.cells
    obtain ⟨ac0, ac1⟩ := A.cells
    obtain ⟨bc0, bc1⟩ := B.cells
    obtain ⟨nc0, nc1⟩ := N.cells
    go_wp2_with fail
    go_ret
    exact ⟨rfl, G⟩
set_option maxHeartbeats 8000000 in
set_option maxRecDepth 100000 in
theorem tells_full (w : World) (a b n s mine : Int) (hn : B64 n) (hs : B64 s) (h : tkB n s = true) (ho : outT n s = 4294967295) :
    Calls Try.prog 3 #[.int .i64 a, .int .i64 b, .agg #[.int .i64 n, .int .i64 s], .int .i64 mine] w fun e w' => e = .returned (.bool true) ∧ Gr w w' := by
  obtain ⟨v, q, hcan, hC⟩ := Can_any a b
  have cC := fun w => Lib.hid (hC w)
  obtain ⟨x, hx⟩ : ∃ x, up1 n = x := ⟨_, rfl⟩
  obtain ⟨y, hy⟩ : ∃ y, up1 s = y := ⟨_, rfl⟩
  obtain ⟨V, hV⟩ : ∃ V, (mine == s) = V := ⟨_, rfl⟩
  obtain ⟨o, hO⟩ : ∃ o, outT n s = o := ⟨_, rfl⟩
  have cD := fun w => Lib.hid (Draw_is (n := n) (s := s) (a := 0) (b := 0) (m := 0) (q := 5) (.inr (.inl ⟨h, ho, rfl, rfl, rfl, rfl⟩)) hn hs w)
  have cE := fun w => Lib.hid (Done_is (n := n) (s := s) (a := n) (b := y) (q := 0) (.inr (.inr ⟨h, by omega, rfl, hy.symm, rfl⟩)) hn hs w)
  have cR := fun w => Lib.hid (Right_is h hn hs w)
  have cr := fun w => Lib.hid (rRight_is h w)
  have cT := fun w => Lib.hid (Turn_is (.inl ⟨h, hV, rfl⟩) hn hs w)
  have cO := fun w => Lib.hid (Out_is (.inl ⟨h, ho, rfl⟩) hn hs w)
  have co := fun w => Lib.hid (rOut_is ho w)
  have cd := fun w => Lib.hid (rDraw_is (s := s) hx w)
  have ce := fun w => Lib.hid (rDone_is (n := n) hy w)
  have tV : (V != V) = false := by cases V <;> rfl
  clear hx hy hO h hC
  clear ho
  go_enter Try.func3, Try.ntmps3
  go_wp2_with fail
  refine (cC _).out.mono ?_
  rintro e w1 ⟨rfl, rfl⟩
  go_wp2_with fail
  refine (cD _).out.mono ?_
  rintro e w2 ⟨rfl, hy⟩
  have T2 := (Two.new w n s).gr hy
  have G2 := ((Gr.refl w).al (.cells #[.int .i64 n, .int .i64 s] 23)).trans hy
  obtain ⟨q0, q1⟩ := T2.cells
  have ne2 := T2.lt
  go_wp2_with fail
  refine (cT _).out.mono ?_
  rintro e w3 ⟨rfl, hb3⟩
  have g3 := ((Gr.refl w2).al (.cells #[.int .i64 0, .int .i64 0] 23)).trans hb3
  have T3 := T2.gr g3
  have A3 := (Two.new w2 0 0).gr hb3
  have G3 := G2.trans g3
  clear q0 q1 T2 G2 g3 hy hb3 ne2
  obtain ⟨q0, q1⟩ := T3.cells
  go_wp2_with fail
  refine (cE _).out.mono ?_
  rintro e w4 ⟨rfl, hb4⟩
  have T4 := T3.gr hb4
  have A4 := A3.gr hb4
  have G4 := G3.trans hb4
  clear q0 q1 T3 G3 A3 hb4
  obtain ⟨q0, q1⟩ := T4.cells
  have ne4 := T4.lt
  go_wp2_with fail
  refine (cO _).out.mono ?_
  rintro e w5 ⟨rfl, hb5⟩
  have g5 := ((Gr.refl w4).al (.cells #[.int .i64 n, .int .i64 y] 23)).trans hb5
  have h6 := ((Gr.refl w5).al (.cells #[.int .i64 0, .int .i64 0] 23))
  have g6 := g5.trans h6
  have T6 := T4.gr g6
  have A6 := A4.gr g6
  have B6 := ((Two.new w4 n y).gr hb5).gr h6
  have N6 := Two.new w5 0 0
  have G6 := (G4.trans g6).dr
  clear q0 q1 T4 G4 A4 g5 g6 h6 hb5 ne4
  go_wp2_with fail
  go_region_held3 (fun w' => w'.cell? ⟨w.heap.size, 0, none⟩ = some (.int .i64 n) ∧ w'.cell? ⟨w.heap.size, 1, none⟩ = some (.int .i64 s) ∧ Two w' w.heap.size n s ∧ Two w' w2.heap.size 0 0 ∧ Two w' w4.heap.size n y ∧ Two w' w5.heap.size 0 0 ∧ Gr w w')
    (first
      | exact ⟨T6.cells.1, T6.cells.2, T6, A6, B6, N6, G6⟩
      | (go_split_ands; exact ⟨(Two.gr (g := w.heap.size) (n := n) (s := s) (by assumption) hb9).cells.1, (Two.gr (g := w.heap.size) (n := n) (s := s) (by assumption) hb9).cells.2, Two.gr (by assumption) hb9, Two.gr (by assumption) hb9, Two.gr (by assumption) hb9, Two.gr (by assumption) hb9, Gr.trans (by assumption) hb9⟩))
    (first
      | (go_at_call 11; refine (cR _).out.mono ?_; rintro ee w9 ⟨rfl, hb9⟩)
      | (go_at_call 12; refine (cr _).out.mono ?_; rintro ee w9 ⟨rfl, hb9⟩)
      | (go_at_call 13; refine (alive6_ok _).mono ?_; rintro ee w9 ⟨rfl, hb9⟩))
  rename_i hH
  obtain ⟨-, -, T, A, B, N, G⟩ := hH
  clear T6 A6 B6 N6 G6
  rcases hcan with ⟨p1, rfl, rfl⟩ | ⟨p1, p2, rfl, rfl⟩ | ⟨p1, p2, rfl, hCr⟩
  · obtain ⟨x0, x1⟩ := T.cells
    go_wp2_with fail
    refine (cr _).out.mono ?_
    rintro e v1 ⟨rfl, hb⟩
    clear x0 x1
    replace T := T.gr hb
    replace A := A.gr hb
    replace B := B.gr hb
    replace N := N.gr hb
    replace G := G.trans hb
    clear hb
    obtain ⟨x0, x1⟩ := T.cells
    go_wp2_with fail
    refine (co _).out.mono ?_
    rintro e v2 ⟨rfl, hb⟩
    clear x0 x1
    replace T := T.gr hb
    replace A := A.gr hb
    replace B := B.gr hb
    replace N := N.gr hb
    replace G := G.trans hb
    clear hb
    obtain ⟨x0, x1⟩ := T.cells
    go_wp2_with fail
    refine (co _).out.mono ?_
    rintro e v3 ⟨rfl, hb⟩
    clear x0 x1
    replace T := T.gr hb
    replace A := A.gr hb
    replace B := B.gr hb
    replace N := N.gr hb
    replace G := G.trans hb
    clear hb
    obtain ⟨x0, x1⟩ := T.cells
    obtain ⟨ac0, ac1⟩ := A.cells
    obtain ⟨nc0, nc1⟩ := N.cells
    go_wp2_with fail
    refine (co _).out.mono ?_
    rintro e v4 ⟨rfl, hb⟩
    clear x0 x1 ac0 ac1 nc0 nc1
    replace T := T.gr hb
    replace B := B.gr hb
    replace N := N.gr hb
    replace G := G.trans hb
    clear hb A
    obtain ⟨x0, x1⟩ := T.cells
    have GD := G.dr
    go_wp2_with fail
    go_region_held3 (fun w' => w'.cell? ⟨w.heap.size, 0, none⟩ = some (.int .i64 n) ∧ w'.cell? ⟨w.heap.size, 1, none⟩ = some (.int .i64 s) ∧ w'.cell? ⟨w4.heap.size, 0, none⟩ = some (.int .i64 n) ∧ w'.cell? ⟨w4.heap.size, 1, none⟩ = some (.int .i64 y) ∧ Two w' w.heap.size n s ∧ Two w' w4.heap.size n y ∧ Gr w w')
      (first
        | exact ⟨T.cells.1, T.cells.2, B.cells.1, B.cells.2, T, B, GD⟩
        | (go_split_ands; exact ⟨(Two.gr (g := w.heap.size) (n := n) (s := s) (by assumption) hb9).cells.1, (Two.gr (g := w.heap.size) (n := n) (s := s) (by assumption) hb9).cells.2, (Two.gr (g := w4.heap.size) (n := n) (s := y) (by assumption) hb9).cells.1, (Two.gr (g := w4.heap.size) (n := n) (s := y) (by assumption) hb9).cells.2, Two.gr (by assumption) hb9, Two.gr (by assumption) hb9, Gr.trans (by assumption) hb9⟩))
      (first
        | (go_at_call 17; refine (ce _).out.mono ?_; rintro ee w9 ⟨rfl, hb9⟩))
    rename_i hH
    obtain ⟨-, -, -, -, -, -, G⟩ := hH
    go_wp2_with fail
    go_ret
    exact ⟨rfl, G⟩
  · obtain ⟨x0, x1⟩ := T.cells
    go_wp2_with fail
    refine (cr _).out.mono ?_
    rintro e v1 ⟨rfl, hb⟩
    clear x0 x1
    replace T := T.gr hb
    replace A := A.gr hb
    replace B := B.gr hb
    replace N := N.gr hb
    replace G := G.trans hb
    clear hb
    obtain ⟨x0, x1⟩ := T.cells
    go_wp2_with fail
    refine (co _).out.mono ?_
    rintro e v2 ⟨rfl, hb⟩
    clear x0 x1
    replace T := T.gr hb
    replace A := A.gr hb
    replace B := B.gr hb
    replace N := N.gr hb
    replace G := G.trans hb
    clear hb
    obtain ⟨x0, x1⟩ := T.cells
    go_wp2_with fail
    refine (co _).out.mono ?_
    rintro e v3 ⟨rfl, hb⟩
    clear x0 x1
    replace T := T.gr hb
    replace A := A.gr hb
    replace B := B.gr hb
    replace N := N.gr hb
    replace G := G.trans hb
    clear hb
    obtain ⟨x0, x1⟩ := T.cells
    obtain ⟨ac0, ac1⟩ := A.cells
    obtain ⟨nc0, nc1⟩ := N.cells
    go_wp2_with fail
    refine (co _).out.mono ?_
    rintro e v4 ⟨rfl, hb⟩
    clear x0 x1 ac0 ac1 nc0 nc1
    replace T := T.gr hb
    replace B := B.gr hb
    replace N := N.gr hb
    replace G := G.trans hb
    clear hb A
    obtain ⟨x0, x1⟩ := T.cells
    have GD := G.dr
    go_wp2_with fail
    go_region_held3 (fun w' => w'.cell? ⟨w.heap.size, 0, none⟩ = some (.int .i64 n) ∧ w'.cell? ⟨w.heap.size, 1, none⟩ = some (.int .i64 s) ∧ w'.cell? ⟨w4.heap.size, 0, none⟩ = some (.int .i64 n) ∧ w'.cell? ⟨w4.heap.size, 1, none⟩ = some (.int .i64 y) ∧ Two w' w.heap.size n s ∧ Two w' w4.heap.size n y ∧ Gr w w')
      (first
        | exact ⟨T.cells.1, T.cells.2, B.cells.1, B.cells.2, T, B, GD⟩
        | (go_split_ands; exact ⟨(Two.gr (g := w.heap.size) (n := n) (s := s) (by assumption) hb9).cells.1, (Two.gr (g := w.heap.size) (n := n) (s := s) (by assumption) hb9).cells.2, (Two.gr (g := w4.heap.size) (n := n) (s := y) (by assumption) hb9).cells.1, (Two.gr (g := w4.heap.size) (n := n) (s := y) (by assumption) hb9).cells.2, Two.gr (by assumption) hb9, Two.gr (by assumption) hb9, Gr.trans (by assumption) hb9⟩))
      (first
        | (go_at_call 17; refine (ce _).out.mono ?_; rintro ee w9 ⟨rfl, hb9⟩))
    rename_i hH
    obtain ⟨-, -, -, -, -, -, G⟩ := hH
    go_wp2_with fail
    go_ret
    exact ⟨rfl, G⟩
  · have cc := fun w => Lib.hid (hCr w)
    clear hCr
    have tv : (v != v) = false := by cases v <;> rfl
    go_wp2_with fail
    refine (cc _).out.mono ?_
    rintro e v0 ⟨rfl, rfl⟩
    obtain ⟨x0, x1⟩ := T.cells
    go_wp2_with fail
    refine (cr _).out.mono ?_
    rintro e v1 ⟨rfl, hb⟩
    clear x0 x1
    replace T := T.gr hb
    replace A := A.gr hb
    replace B := B.gr hb
    replace N := N.gr hb
    replace G := G.trans hb
    clear hb
    obtain ⟨x0, x1⟩ := T.cells
    go_wp2_with fail
    refine (co _).out.mono ?_
    rintro e v2 ⟨rfl, hb⟩
    clear x0 x1
    replace T := T.gr hb
    replace A := A.gr hb
    replace B := B.gr hb
    replace N := N.gr hb
    replace G := G.trans hb
    clear hb
    obtain ⟨x0, x1⟩ := T.cells
    go_wp2_with fail
    refine (co _).out.mono ?_
    rintro e v3 ⟨rfl, hb⟩
    clear x0 x1
    replace T := T.gr hb
    replace A := A.gr hb
    replace B := B.gr hb
    replace N := N.gr hb
    replace G := G.trans hb
    clear hb
    obtain ⟨x0, x1⟩ := T.cells
    obtain ⟨ac0, ac1⟩ := A.cells
    obtain ⟨nc0, nc1⟩ := N.cells
    go_wp2_with fail
    refine (co _).out.mono ?_
    rintro e v4 ⟨rfl, hb⟩
    clear x0 x1 ac0 ac1 nc0 nc1
    replace T := T.gr hb
    replace B := B.gr hb
    replace N := N.gr hb
    replace G := G.trans hb
    clear hb A
    obtain ⟨x0, x1⟩ := T.cells
    have GD := G.dr
    go_wp2_with fail
    go_region_held3 (fun w' => w'.cell? ⟨w.heap.size, 0, none⟩ = some (.int .i64 n) ∧ w'.cell? ⟨w.heap.size, 1, none⟩ = some (.int .i64 s) ∧ w'.cell? ⟨w4.heap.size, 0, none⟩ = some (.int .i64 n) ∧ w'.cell? ⟨w4.heap.size, 1, none⟩ = some (.int .i64 y) ∧ Two w' w.heap.size n s ∧ Two w' w4.heap.size n y ∧ Gr w w')
      (first
        | exact ⟨T.cells.1, T.cells.2, B.cells.1, B.cells.2, T, B, GD⟩
        | (go_split_ands; exact ⟨(Two.gr (g := w.heap.size) (n := n) (s := s) (by assumption) hb9).cells.1, (Two.gr (g := w.heap.size) (n := n) (s := s) (by assumption) hb9).cells.2, (Two.gr (g := w4.heap.size) (n := n) (s := y) (by assumption) hb9).cells.1, (Two.gr (g := w4.heap.size) (n := n) (s := y) (by assumption) hb9).cells.2, Two.gr (by assumption) hb9, Two.gr (by assumption) hb9, Gr.trans (by assumption) hb9⟩))
      (first
        | (go_at_call 17; refine (ce _).out.mono ?_; rintro ee w9 ⟨rfl, hb9⟩))
    rename_i hH
    obtain ⟨-, -, -, -, -, -, G⟩ := hH
    go_wp2_with fail
    go_ret
    exact ⟨rfl, G⟩
set_option maxHeartbeats 8000000 in
set_option maxRecDepth 100000 in
theorem tells_none (w : World) (a b n s mine : Int) (hn : B64 n) (hs : B64 s) (h : tkB n s = true) (ho : outT n s = 0) :
    Calls Try.prog 3 #[.int .i64 a, .int .i64 b, .agg #[.int .i64 n, .int .i64 s], .int .i64 mine] w fun e w' => e = .returned (.bool true) ∧ Gr w w' := by
  obtain ⟨v, q, hcan, hC⟩ := Can_any a b
  have cC := fun w => Lib.hid (hC w)
  obtain ⟨x, hx⟩ : ∃ x, up1 n = x := ⟨_, rfl⟩
  obtain ⟨y, hy⟩ : ∃ y, up1 s = y := ⟨_, rfl⟩
  obtain ⟨V, hV⟩ : ∃ V, (mine == s) = V := ⟨_, rfl⟩
  obtain ⟨o, hO⟩ : ∃ o, outT n s = o := ⟨_, rfl⟩
  have cD := fun w => Lib.hid (Draw_is (n := n) (s := s) (a := x) (b := s) (m := n) (q := 0) (.inr (.inr ⟨h, by omega, hx.symm, rfl, rfl, rfl⟩)) hn hs w)
  have cE := fun w => Lib.hid (Done_is (n := n) (s := s) (a := 0) (b := 0) (q := 6) (.inr (.inl ⟨h, ho, rfl, rfl, rfl⟩)) hn hs w)
  have cR := fun w => Lib.hid (Right_is h hn hs w)
  have cr := fun w => Lib.hid (rRight_is h w)
  have cT := fun w => Lib.hid (Turn_is (.inl ⟨h, hV, rfl⟩) hn hs w)
  have cO := fun w => Lib.hid (Out_is (.inl ⟨h, ho, rfl⟩) hn hs w)
  have co := fun w => Lib.hid (rOut_is ho w)
  have cd := fun w => Lib.hid (rDraw_is (s := s) hx w)
  have ce := fun w => Lib.hid (rDone_is (n := n) hy w)
  have tV : (V != V) = false := by cases V <;> rfl
  clear hx hy hO h hC
  clear ho
  go_enter Try.func3, Try.ntmps3
  go_wp2_with fail
  refine (cC _).out.mono ?_
  rintro e w1 ⟨rfl, rfl⟩
  go_wp2_with fail
  refine (cD _).out.mono ?_
  rintro e w2 ⟨rfl, h0⟩
  have T2 := (Two.new w n s).gr h0
  have G2 := ((Gr.refl w).al (.cells #[.int .i64 n, .int .i64 s] 23)).trans h0
  obtain ⟨q0, q1⟩ := T2.cells
  have ne2 := T2.lt
  go_wp2_with fail
  refine (cT _).out.mono ?_
  rintro e w3 ⟨rfl, hb3⟩
  have g3 := ((Gr.refl w2).al (.cells #[.int .i64 x, .int .i64 s] 23)).trans hb3
  have T3 := T2.gr g3
  have A3 := (Two.new w2 x s).gr hb3
  have G3 := G2.trans g3
  clear q0 q1 T2 G2 g3 h0 hb3 ne2
  obtain ⟨q0, q1⟩ := T3.cells
  go_wp2_with fail
  refine (cE _).out.mono ?_
  rintro e w4 ⟨rfl, hb4⟩
  have T4 := T3.gr hb4
  have A4 := A3.gr hb4
  have G4 := G3.trans hb4
  clear q0 q1 T3 G3 A3 hb4
  obtain ⟨q0, q1⟩ := T4.cells
  have ne4 := T4.lt
  go_wp2_with fail
  refine (cO _).out.mono ?_
  rintro e w5 ⟨rfl, hb5⟩
  have g5 := ((Gr.refl w4).al (.cells #[.int .i64 0, .int .i64 0] 23)).trans hb5
  have h6 := ((Gr.refl w5).al (.cells #[.int .i64 0, .int .i64 0] 23))
  have g6 := g5.trans h6
  have T6 := T4.gr g6
  have A6 := A4.gr g6
  have B6 := ((Two.new w4 0 0).gr hb5).gr h6
  have N6 := Two.new w5 0 0
  have G6 := (G4.trans g6).dr
  clear q0 q1 T4 G4 A4 g5 g6 h6 hb5 ne4
  go_wp2_with fail
  go_region_held3 (fun w' => w'.cell? ⟨w.heap.size, 0, none⟩ = some (.int .i64 n) ∧ w'.cell? ⟨w.heap.size, 1, none⟩ = some (.int .i64 s) ∧ Two w' w.heap.size n s ∧ Two w' w2.heap.size x s ∧ Two w' w4.heap.size 0 0 ∧ Two w' w5.heap.size 0 0 ∧ Gr w w')
    (first
      | exact ⟨T6.cells.1, T6.cells.2, T6, A6, B6, N6, G6⟩
      | (go_split_ands; exact ⟨(Two.gr (g := w.heap.size) (n := n) (s := s) (by assumption) hb9).cells.1, (Two.gr (g := w.heap.size) (n := n) (s := s) (by assumption) hb9).cells.2, Two.gr (by assumption) hb9, Two.gr (by assumption) hb9, Two.gr (by assumption) hb9, Two.gr (by assumption) hb9, Gr.trans (by assumption) hb9⟩))
    (first
      | (go_at_call 11; refine (cR _).out.mono ?_; rintro ee w9 ⟨rfl, hb9⟩)
      | (go_at_call 12; refine (cr _).out.mono ?_; rintro ee w9 ⟨rfl, hb9⟩)
      | (go_at_call 13; refine (alive6_ok _).mono ?_; rintro ee w9 ⟨rfl, hb9⟩))
  rename_i hH
  obtain ⟨-, -, T, A, B, N, G⟩ := hH
  clear T6 A6 B6 N6 G6
  rcases hcan with ⟨p1, rfl, rfl⟩ | ⟨p1, p2, rfl, rfl⟩ | ⟨p1, p2, rfl, hCr⟩
  · obtain ⟨x0, x1⟩ := T.cells
    go_wp2_with fail
    refine (cr _).out.mono ?_
    rintro e v1 ⟨rfl, hb⟩
    clear x0 x1
    replace T := T.gr hb
    replace A := A.gr hb
    replace B := B.gr hb
    replace N := N.gr hb
    replace G := G.trans hb
    clear hb
    obtain ⟨x0, x1⟩ := T.cells
    go_wp2_with fail
    refine (co _).out.mono ?_
    rintro e v2 ⟨rfl, hb⟩
    clear x0 x1
    replace T := T.gr hb
    replace A := A.gr hb
    replace B := B.gr hb
    replace N := N.gr hb
    replace G := G.trans hb
    clear hb
    obtain ⟨x0, x1⟩ := T.cells
    go_wp2_with fail
    refine (co _).out.mono ?_
    rintro e v3 ⟨rfl, hb⟩
    clear x0 x1
    replace T := T.gr hb
    replace A := A.gr hb
    replace B := B.gr hb
    replace N := N.gr hb
    replace G := G.trans hb
    clear hb
    obtain ⟨x0, x1⟩ := T.cells
    go_wp2_with fail
    refine (cd _).out.mono ?_
    rintro e v4 ⟨rfl, hb⟩
    clear x0 x1
    replace T := T.gr hb
    replace A := A.gr hb
    replace B := B.gr hb
    replace N := N.gr hb
    replace G := G.trans hb
    clear hb
    obtain ⟨x0, x1⟩ := T.cells
    have ltT := T.lt
    have ltA := A.lt
    obtain ⟨ac0, ac1⟩ := A.cells
    go_wp2_with fail
    refine (co _).out.mono ?_
    rintro e v5 ⟨rfl, hb⟩
    clear x0 x1 ac0 ac1 ltT ltA
    have gX := ((Gr.refl v4).al (.cells #[.int .i64 x, .int .i64 s] 23)).trans hb
    replace T := T.gr gX
    replace B := B.gr gX
    replace N := N.gr gX
    replace G := G.trans gX
    clear hb gX A
    obtain ⟨bc0, bc1⟩ := B.cells
    obtain ⟨nc0, nc1⟩ := N.cells
    go_wp2_with fail
    go_ret
    exact ⟨rfl, G⟩
  · obtain ⟨x0, x1⟩ := T.cells
    go_wp2_with fail
    refine (cr _).out.mono ?_
    rintro e v1 ⟨rfl, hb⟩
    clear x0 x1
    replace T := T.gr hb
    replace A := A.gr hb
    replace B := B.gr hb
    replace N := N.gr hb
    replace G := G.trans hb
    clear hb
    obtain ⟨x0, x1⟩ := T.cells
    go_wp2_with fail
    refine (co _).out.mono ?_
    rintro e v2 ⟨rfl, hb⟩
    clear x0 x1
    replace T := T.gr hb
    replace A := A.gr hb
    replace B := B.gr hb
    replace N := N.gr hb
    replace G := G.trans hb
    clear hb
    obtain ⟨x0, x1⟩ := T.cells
    go_wp2_with fail
    refine (co _).out.mono ?_
    rintro e v3 ⟨rfl, hb⟩
    clear x0 x1
    replace T := T.gr hb
    replace A := A.gr hb
    replace B := B.gr hb
    replace N := N.gr hb
    replace G := G.trans hb
    clear hb
    obtain ⟨x0, x1⟩ := T.cells
    go_wp2_with fail
    refine (cd _).out.mono ?_
    rintro e v4 ⟨rfl, hb⟩
    clear x0 x1
    replace T := T.gr hb
    replace A := A.gr hb
    replace B := B.gr hb
    replace N := N.gr hb
    replace G := G.trans hb
    clear hb
    obtain ⟨x0, x1⟩ := T.cells
    have ltT := T.lt
    have ltA := A.lt
    obtain ⟨ac0, ac1⟩ := A.cells
    go_wp2_with fail
    refine (co _).out.mono ?_
    rintro e v5 ⟨rfl, hb⟩
    clear x0 x1 ac0 ac1 ltT ltA
    have gX := ((Gr.refl v4).al (.cells #[.int .i64 x, .int .i64 s] 23)).trans hb
    replace T := T.gr gX
    replace B := B.gr gX
    replace N := N.gr gX
    replace G := G.trans gX
    clear hb gX A
    obtain ⟨bc0, bc1⟩ := B.cells
    obtain ⟨nc0, nc1⟩ := N.cells
    go_wp2_with fail
    go_ret
    exact ⟨rfl, G⟩
  · have cc := fun w => Lib.hid (hCr w)
    clear hCr
    have tv : (v != v) = false := by cases v <;> rfl
    go_wp2_with fail
    refine (cc _).out.mono ?_
    rintro e v0 ⟨rfl, rfl⟩
    obtain ⟨x0, x1⟩ := T.cells
    go_wp2_with fail
    refine (cr _).out.mono ?_
    rintro e v1 ⟨rfl, hb⟩
    clear x0 x1
    replace T := T.gr hb
    replace A := A.gr hb
    replace B := B.gr hb
    replace N := N.gr hb
    replace G := G.trans hb
    clear hb
    obtain ⟨x0, x1⟩ := T.cells
    go_wp2_with fail
    refine (co _).out.mono ?_
    rintro e v2 ⟨rfl, hb⟩
    clear x0 x1
    replace T := T.gr hb
    replace A := A.gr hb
    replace B := B.gr hb
    replace N := N.gr hb
    replace G := G.trans hb
    clear hb
    obtain ⟨x0, x1⟩ := T.cells
    go_wp2_with fail
    refine (co _).out.mono ?_
    rintro e v3 ⟨rfl, hb⟩
    clear x0 x1
    replace T := T.gr hb
    replace A := A.gr hb
    replace B := B.gr hb
    replace N := N.gr hb
    replace G := G.trans hb
    clear hb
    obtain ⟨x0, x1⟩ := T.cells
    go_wp2_with fail
    refine (cd _).out.mono ?_
    rintro e v4 ⟨rfl, hb⟩
    clear x0 x1
    replace T := T.gr hb
    replace A := A.gr hb
    replace B := B.gr hb
    replace N := N.gr hb
    replace G := G.trans hb
    clear hb
    obtain ⟨x0, x1⟩ := T.cells
    have ltT := T.lt
    have ltA := A.lt
    obtain ⟨ac0, ac1⟩ := A.cells
    go_wp2_with fail
    refine (co _).out.mono ?_
    rintro e v5 ⟨rfl, hb⟩
    clear x0 x1 ac0 ac1 ltT ltA
    have gX := ((Gr.refl v4).al (.cells #[.int .i64 x, .int .i64 s] 23)).trans hb
    replace T := T.gr gX
    replace B := B.gr gX
    replace N := N.gr gX
    replace G := G.trans gX
    clear hb gX A
    obtain ⟨bc0, bc1⟩ := B.cells
    obtain ⟨nc0, nc1⟩ := N.cells
    go_wp2_with fail
    go_ret
    exact ⟨rfl, G⟩
set_option maxHeartbeats 8000000 in
set_option maxRecDepth 100000 in
theorem tells_mid (w : World) (a b n s mine : Int) (hn : B64 n) (hs : B64 s) (h : tkB n s = true) (ho1 : outT n s ≠ 4294967295) (ho0 : outT n s ≠ 0) :
    Calls Try.prog 3 #[.int .i64 a, .int .i64 b, .agg #[.int .i64 n, .int .i64 s], .int .i64 mine] w fun e w' => e = .returned (.bool true) ∧ Gr w w' := by
  obtain ⟨v, q, hcan, hC⟩ := Can_any a b
  have cC := fun w => Lib.hid (hC w)
  obtain ⟨x, hx⟩ : ∃ x, up1 n = x := ⟨_, rfl⟩
  obtain ⟨y, hy⟩ : ∃ y, up1 s = y := ⟨_, rfl⟩
  obtain ⟨V, hV⟩ : ∃ V, (mine == s) = V := ⟨_, rfl⟩
  obtain ⟨o, hO⟩ : ∃ o, outT n s = o := ⟨_, rfl⟩
  have cD := fun w => Lib.hid (Draw_is (n := n) (s := s) (a := x) (b := s) (m := n) (q := 0) (.inr (.inr ⟨h, ho1, hx.symm, rfl, rfl, rfl⟩)) hn hs w)
  have cE := fun w => Lib.hid (Done_is (n := n) (s := s) (a := n) (b := y) (q := 0) (.inr (.inr ⟨h, ho0, rfl, hy.symm, rfl⟩)) hn hs w)
  have cR := fun w => Lib.hid (Right_is h hn hs w)
  have cr := fun w => Lib.hid (rRight_is h w)
  have cT := fun w => Lib.hid (Turn_is (.inl ⟨h, hV, rfl⟩) hn hs w)
  have cO := fun w => Lib.hid (Out_is (.inl ⟨h, hO, rfl⟩) hn hs w)
  have co := fun w => Lib.hid (rOut_is hO w)
  have cd := fun w => Lib.hid (rDraw_is (s := s) hx w)
  have ce := fun w => Lib.hid (rDone_is (n := n) hy w)
  have tV : (V != V) = false := by cases V <;> rfl
  rw [hO] at ho1 ho0
  have e1 : (o == 4294967295) = false := beq_eq_false_iff_ne.2 ho1
  have e0 : (o == 0) = false := beq_eq_false_iff_ne.2 ho0
  have tO : (o != o) = false := by simp
  clear ho1 ho0
  clear hx hy hO h hC
  go_enter Try.func3, Try.ntmps3
  go_wp2_with fail
  refine (cC _).out.mono ?_
  rintro e w1 ⟨rfl, rfl⟩
  go_wp2_with fail
  refine (cD _).out.mono ?_
  rintro e w2 ⟨rfl, hy⟩
  have T2 := (Two.new w n s).gr hy
  have G2 := ((Gr.refl w).al (.cells #[.int .i64 n, .int .i64 s] 23)).trans hy
  obtain ⟨q0, q1⟩ := T2.cells
  have ne2 := T2.lt
  go_wp2_with fail
  refine (cT _).out.mono ?_
  rintro e w3 ⟨rfl, hb3⟩
  have g3 := ((Gr.refl w2).al (.cells #[.int .i64 x, .int .i64 s] 23)).trans hb3
  have T3 := T2.gr g3
  have A3 := (Two.new w2 x s).gr hb3
  have G3 := G2.trans g3
  clear q0 q1 T2 G2 g3 hy hb3 ne2
  obtain ⟨q0, q1⟩ := T3.cells
  go_wp2_with fail
  refine (cE _).out.mono ?_
  rintro e w4 ⟨rfl, hb4⟩
  have T4 := T3.gr hb4
  have A4 := A3.gr hb4
  have G4 := G3.trans hb4
  clear q0 q1 T3 G3 A3 hb4
  obtain ⟨q0, q1⟩ := T4.cells
  have ne4 := T4.lt
  go_wp2_with fail
  refine (cO _).out.mono ?_
  rintro e w5 ⟨rfl, hb5⟩
  have g5 := ((Gr.refl w4).al (.cells #[.int .i64 n, .int .i64 y] 23)).trans hb5
  have h6 := ((Gr.refl w5).al (.cells #[.int .i64 0, .int .i64 0] 23))
  have g6 := g5.trans h6
  have T6 := T4.gr g6
  have A6 := A4.gr g6
  have B6 := ((Two.new w4 n y).gr hb5).gr h6
  have N6 := Two.new w5 0 0
  have G6 := (G4.trans g6).dr
  clear q0 q1 T4 G4 A4 g5 g6 h6 hb5 ne4
  go_wp2_with fail
  go_region_held3 (fun w' => w'.cell? ⟨w.heap.size, 0, none⟩ = some (.int .i64 n) ∧ w'.cell? ⟨w.heap.size, 1, none⟩ = some (.int .i64 s) ∧ Two w' w.heap.size n s ∧ Two w' w2.heap.size x s ∧ Two w' w4.heap.size n y ∧ Two w' w5.heap.size 0 0 ∧ Gr w w')
    (first
      | exact ⟨T6.cells.1, T6.cells.2, T6, A6, B6, N6, G6⟩
      | (go_split_ands; exact ⟨(Two.gr (g := w.heap.size) (n := n) (s := s) (by assumption) hb9).cells.1, (Two.gr (g := w.heap.size) (n := n) (s := s) (by assumption) hb9).cells.2, Two.gr (by assumption) hb9, Two.gr (by assumption) hb9, Two.gr (by assumption) hb9, Two.gr (by assumption) hb9, Gr.trans (by assumption) hb9⟩))
    (first
      | (go_at_call 11; refine (cR _).out.mono ?_; rintro ee w9 ⟨rfl, hb9⟩)
      | (go_at_call 12; refine (cr _).out.mono ?_; rintro ee w9 ⟨rfl, hb9⟩)
      | (go_at_call 13; refine (alive6_ok _).mono ?_; rintro ee w9 ⟨rfl, hb9⟩))
  rename_i hH
  obtain ⟨-, -, T, A, B, N, G⟩ := hH
  clear T6 A6 B6 N6 G6
  rcases hcan with ⟨p1, rfl, rfl⟩ | ⟨p1, p2, rfl, rfl⟩ | ⟨p1, p2, rfl, hCr⟩
  · obtain ⟨x0, x1⟩ := T.cells
    go_wp2_with fail
    refine (cr _).out.mono ?_
    rintro e v1 ⟨rfl, hb⟩
    clear x0 x1
    replace T := T.gr hb
    replace A := A.gr hb
    replace B := B.gr hb
    replace N := N.gr hb
    replace G := G.trans hb
    clear hb
    obtain ⟨x0, x1⟩ := T.cells
    go_wp2_with fail
    refine (co _).out.mono ?_
    rintro e v2 ⟨rfl, hb⟩
    clear x0 x1
    replace T := T.gr hb
    replace A := A.gr hb
    replace B := B.gr hb
    replace N := N.gr hb
    replace G := G.trans hb
    clear hb
    obtain ⟨x0, x1⟩ := T.cells
    go_wp2_with fail
    refine (co _).out.mono ?_
    rintro e v3 ⟨rfl, hb⟩
    clear x0 x1
    replace T := T.gr hb
    replace A := A.gr hb
    replace B := B.gr hb
    replace N := N.gr hb
    replace G := G.trans hb
    clear hb
    obtain ⟨x0, x1⟩ := T.cells
    go_wp2_with fail
    refine (cd _).out.mono ?_
    rintro e v4 ⟨rfl, hb⟩
    clear x0 x1
    replace T := T.gr hb
    replace A := A.gr hb
    replace B := B.gr hb
    replace N := N.gr hb
    replace G := G.trans hb
    clear hb
    obtain ⟨x0, x1⟩ := T.cells
    have ltT := T.lt
    have ltA := A.lt
    obtain ⟨ac0, ac1⟩ := A.cells
    go_wp2_with fail
    refine (co _).out.mono ?_
    rintro e v5 ⟨rfl, hb⟩
    clear x0 x1 ac0 ac1 ltT ltA
    have gX := ((Gr.refl v4).al (.cells #[.int .i64 x, .int .i64 s] 23)).trans hb
    replace T := T.gr gX
    replace B := B.gr gX
    replace N := N.gr gX
    replace G := G.trans gX
    clear hb gX A
    obtain ⟨x0, x1⟩ := T.cells
    have GD := G.dr
    go_wp2_with fail
    go_region_held3 (fun w' => w'.cell? ⟨w.heap.size, 0, none⟩ = some (.int .i64 n) ∧ w'.cell? ⟨w.heap.size, 1, none⟩ = some (.int .i64 s) ∧ w'.cell? ⟨w4.heap.size, 0, none⟩ = some (.int .i64 n) ∧ w'.cell? ⟨w4.heap.size, 1, none⟩ = some (.int .i64 y) ∧ Two w' w.heap.size n s ∧ Two w' w4.heap.size n y ∧ Gr w w')
      (first
        | exact ⟨T.cells.1, T.cells.2, B.cells.1, B.cells.2, T, B, GD⟩
        | (go_split_ands; exact ⟨(Two.gr (g := w.heap.size) (n := n) (s := s) (by assumption) hb9).cells.1, (Two.gr (g := w.heap.size) (n := n) (s := s) (by assumption) hb9).cells.2, (Two.gr (g := w4.heap.size) (n := n) (s := y) (by assumption) hb9).cells.1, (Two.gr (g := w4.heap.size) (n := n) (s := y) (by assumption) hb9).cells.2, Two.gr (by assumption) hb9, Two.gr (by assumption) hb9, Gr.trans (by assumption) hb9⟩))
      (first
        | (go_at_call 17; refine (ce _).out.mono ?_; rintro ee w9 ⟨rfl, hb9⟩))
    rename_i hH
    obtain ⟨-, -, -, -, -, -, G⟩ := hH
    go_wp2_with fail
    go_ret
    exact ⟨rfl, G⟩
  · obtain ⟨x0, x1⟩ := T.cells
    go_wp2_with fail
    refine (cr _).out.mono ?_
    rintro e v1 ⟨rfl, hb⟩
    clear x0 x1
    replace T := T.gr hb
    replace A := A.gr hb
    replace B := B.gr hb
    replace N := N.gr hb
    replace G := G.trans hb
    clear hb
    obtain ⟨x0, x1⟩ := T.cells
    go_wp2_with fail
    refine (co _).out.mono ?_
    rintro e v2 ⟨rfl, hb⟩
    clear x0 x1
    replace T := T.gr hb
    replace A := A.gr hb
    replace B := B.gr hb
    replace N := N.gr hb
    replace G := G.trans hb
    clear hb
    obtain ⟨x0, x1⟩ := T.cells
    go_wp2_with fail
    refine (co _).out.mono ?_
    rintro e v3 ⟨rfl, hb⟩
    clear x0 x1
    replace T := T.gr hb
    replace A := A.gr hb
    replace B := B.gr hb
    replace N := N.gr hb
    replace G := G.trans hb
    clear hb
    obtain ⟨x0, x1⟩ := T.cells
    go_wp2_with fail
    refine (cd _).out.mono ?_
    rintro e v4 ⟨rfl, hb⟩
    clear x0 x1
    replace T := T.gr hb
    replace A := A.gr hb
    replace B := B.gr hb
    replace N := N.gr hb
    replace G := G.trans hb
    clear hb
    obtain ⟨x0, x1⟩ := T.cells
    have ltT := T.lt
    have ltA := A.lt
    obtain ⟨ac0, ac1⟩ := A.cells
    go_wp2_with fail
    refine (co _).out.mono ?_
    rintro e v5 ⟨rfl, hb⟩
    clear x0 x1 ac0 ac1 ltT ltA
    have gX := ((Gr.refl v4).al (.cells #[.int .i64 x, .int .i64 s] 23)).trans hb
    replace T := T.gr gX
    replace B := B.gr gX
    replace N := N.gr gX
    replace G := G.trans gX
    clear hb gX A
    obtain ⟨x0, x1⟩ := T.cells
    have GD := G.dr
    go_wp2_with fail
    go_region_held3 (fun w' => w'.cell? ⟨w.heap.size, 0, none⟩ = some (.int .i64 n) ∧ w'.cell? ⟨w.heap.size, 1, none⟩ = some (.int .i64 s) ∧ w'.cell? ⟨w4.heap.size, 0, none⟩ = some (.int .i64 n) ∧ w'.cell? ⟨w4.heap.size, 1, none⟩ = some (.int .i64 y) ∧ Two w' w.heap.size n s ∧ Two w' w4.heap.size n y ∧ Gr w w')
      (first
        | exact ⟨T.cells.1, T.cells.2, B.cells.1, B.cells.2, T, B, GD⟩
        | (go_split_ands; exact ⟨(Two.gr (g := w.heap.size) (n := n) (s := s) (by assumption) hb9).cells.1, (Two.gr (g := w.heap.size) (n := n) (s := s) (by assumption) hb9).cells.2, (Two.gr (g := w4.heap.size) (n := n) (s := y) (by assumption) hb9).cells.1, (Two.gr (g := w4.heap.size) (n := n) (s := y) (by assumption) hb9).cells.2, Two.gr (by assumption) hb9, Two.gr (by assumption) hb9, Gr.trans (by assumption) hb9⟩))
      (first
        | (go_at_call 17; refine (ce _).out.mono ?_; rintro ee w9 ⟨rfl, hb9⟩))
    rename_i hH
    obtain ⟨-, -, -, -, -, -, G⟩ := hH
    go_wp2_with fail
    go_ret
    exact ⟨rfl, G⟩
  · have cc := fun w => Lib.hid (hCr w)
    clear hCr
    have tv : (v != v) = false := by cases v <;> rfl
    go_wp2_with fail
    refine (cc _).out.mono ?_
    rintro e v0 ⟨rfl, rfl⟩
    obtain ⟨x0, x1⟩ := T.cells
    go_wp2_with fail
    refine (cr _).out.mono ?_
    rintro e v1 ⟨rfl, hb⟩
    clear x0 x1
    replace T := T.gr hb
    replace A := A.gr hb
    replace B := B.gr hb
    replace N := N.gr hb
    replace G := G.trans hb
    clear hb
    obtain ⟨x0, x1⟩ := T.cells
    go_wp2_with fail
    refine (co _).out.mono ?_
    rintro e v2 ⟨rfl, hb⟩
    clear x0 x1
    replace T := T.gr hb
    replace A := A.gr hb
    replace B := B.gr hb
    replace N := N.gr hb
    replace G := G.trans hb
    clear hb
    obtain ⟨x0, x1⟩ := T.cells
    go_wp2_with fail
    refine (co _).out.mono ?_
    rintro e v3 ⟨rfl, hb⟩
    clear x0 x1
    replace T := T.gr hb
    replace A := A.gr hb
    replace B := B.gr hb
    replace N := N.gr hb
    replace G := G.trans hb
    clear hb
    obtain ⟨x0, x1⟩ := T.cells
    go_wp2_with fail
    refine (cd _).out.mono ?_
    rintro e v4 ⟨rfl, hb⟩
    clear x0 x1
    replace T := T.gr hb
    replace A := A.gr hb
    replace B := B.gr hb
    replace N := N.gr hb
    replace G := G.trans hb
    clear hb
    obtain ⟨x0, x1⟩ := T.cells
    have ltT := T.lt
    have ltA := A.lt
    obtain ⟨ac0, ac1⟩ := A.cells
    go_wp2_with fail
    refine (co _).out.mono ?_
    rintro e v5 ⟨rfl, hb⟩
    clear x0 x1 ac0 ac1 ltT ltA
    have gX := ((Gr.refl v4).al (.cells #[.int .i64 x, .int .i64 s] 23)).trans hb
    replace T := T.gr gX
    replace B := B.gr gX
    replace N := N.gr gX
    replace G := G.trans gX
    clear hb gX A
    obtain ⟨x0, x1⟩ := T.cells
    have GD := G.dr
    go_wp2_with fail
    go_region_held3 (fun w' => w'.cell? ⟨w.heap.size, 0, none⟩ = some (.int .i64 n) ∧ w'.cell? ⟨w.heap.size, 1, none⟩ = some (.int .i64 s) ∧ w'.cell? ⟨w4.heap.size, 0, none⟩ = some (.int .i64 n) ∧ w'.cell? ⟨w4.heap.size, 1, none⟩ = some (.int .i64 y) ∧ Two w' w.heap.size n s ∧ Two w' w4.heap.size n y ∧ Gr w w')
      (first
        | exact ⟨T.cells.1, T.cells.2, B.cells.1, B.cells.2, T, B, GD⟩
        | (go_split_ands; exact ⟨(Two.gr (g := w.heap.size) (n := n) (s := s) (by assumption) hb9).cells.1, (Two.gr (g := w.heap.size) (n := n) (s := s) (by assumption) hb9).cells.2, (Two.gr (g := w4.heap.size) (n := n) (s := y) (by assumption) hb9).cells.1, (Two.gr (g := w4.heap.size) (n := n) (s := y) (by assumption) hb9).cells.2, Two.gr (by assumption) hb9, Two.gr (by assumption) hb9, Gr.trans (by assumption) hb9⟩))
      (first
        | (go_at_call 17; refine (ce _).out.mono ?_; rintro ee w9 ⟨rfl, hb9⟩))
    rename_i hH
    obtain ⟨-, -, -, -, -, -, G⟩ := hH
    go_wp2_with fail
    go_ret
    exact ⟨rfl, G⟩
theorem SpinTells_walk (w : World) (a : Int) (ha : -9223372036854775808 ≤ a ∧ a ≤ 9223372036854775807) (b : Int) (hb : -9223372036854775808 ≤ b ∧ b ≤ 9223372036854775807) (n s : Int) (hn : B64 n) (hs : B64 s) (mine : Int) (hmi : -9223372036854775808 ≤ mine ∧ mine ≤ 9223372036854775807) :
    Calls Try.prog 3 #[.int .i64 a, .int .i64 b, .agg #[.int .i64 n, .int .i64 s], .int .i64 mine] w fun e w' => e = .returned (.bool true) ∧ Gr w w' := by
  cases h : tkB n s
  · exact tells_no w a b n s mine hn hs h
  · by_cases h0 : outT n s = 0
    · exact tells_none w a b n s mine hn hs h h0
    · by_cases h1 : outT n s = 4294967295
      · exact tells_full w a b n s mine hn hs h h1
      · exact tells_mid w a b n s mine hn hs h h1 h0
set_option maxRecDepth 100000 in
theorem SpinTells_lifted (os : Os) (started : os.Started) (H : Type) (enc : TypeId × Value → H) :
    ReturnsInHanded {} Try.checked os 3 .any (Rows.spinTellsSpec.pre6 enc Try.prog Try.f3 Rows.spinTellsRow.domain false) (Rows.spinTellsSpec.post enc Try.prog Try.f3 false true false false) := by
  refine returnsInHanded_of_change (C := Try.checked) own started (by kernel_rfl) Try.func3
    (ChangeSpec.witness6 (enc := enc) (C := Try.checked) false ⟨#[], #[.int .i64 0, .int .i64 0, .agg #[.int .i64 0, .int .i64 0], .int .i64 0], []⟩ 8 (by kernel_rfl) (by kernel_rfl) (by kernel_rfl) (by kernel_rfl)) ?_
  intro W base args ds gs before hval0 hW hcnd _
  have hval : ∀ (j : Nat) t v, Try.f3.params[j]? = some t → args[j]? = some v → Value.okWide Try.prog W .any base t v := hval0
  have hW' := hW
  obtain ⟨p, q, hA0, hV, rfl, hfz, hnd⟩ := hW
  have hA : DataW.TrodAll enc Try.prog W 0 (fun _ => true) true Try.f3.params.toList args.toList ds p := hA0
  rw [Try.params3] at hA hval
  have hK := hA
  obtain ⟨v0, vs0, d0, ds0, p0, q0, hargs, rfl, hp, h0, r0⟩ := trodAll_cons hA
  obtain ⟨v1, vs1, d1, ds1, p1, q1, rfl, rfl, rfl, h1, r1⟩ := trodAll_cons r0
  obtain ⟨v2, vs2, d2, ds2, p2, q2, rfl, rfl, rfl, h2, r2⟩ := trodAll_cons r1
  obtain ⟨v3, vs3, d3, ds3, p3, q3, rfl, rfl, rfl, h3, r3⟩ := trodAll_cons r2
  obtain ⟨rfl, rfl, rfl⟩ := trodAll_nil r3
  obtain rfl : args = #[v0, v1, v2, v3] := by cases args; simp_all
  obtain ⟨rfl, rfl⟩ := trodVars_none hV
  obtain ⟨a0, rfl, rfl, rfl, w0⟩ := open_int Try.underlying3 (hval 0 3 v0 rfl rfl) h0
  obtain ⟨a1, rfl, rfl, rfl, w1⟩ := open_int Try.underlying3 (hval 1 3 v1 rfl rfl) h1
  obtain ⟨n2, s2, rfl, hn2, hs2⟩ := open_ticket (hval 2 23 v2 rfl rfl) h2
  obtain ⟨a3, rfl, rfl, rfl, w3⟩ := open_int Try.underlying3 (hval 3 3 v3 rfl rfl) h3
  clear hA0 hval0
  refine (SpinTells_walk W a0 (wfb w0) a1 (wfb w1) n2 s2 hn2 hs2 a3 (wfb w3)).mono fun e W' ⟨he, hg⟩ => ?_
  subst he
  exact ⟨_, rfl, post_below (pa := p) (pv := []) hW' (fun _ _ _ => (trodAll_cons_mk (shut_bool Try.underlying4 _) trodAll_mk0))
    (fun sp hs => trodAll_stays laidOut hg sp (by kernel_rfl) hK (fun x hx => hW'.lt x (List.mem_append_left _ hx)) (fun x hx => hs x (List.mem_append_left _ hx))) (fun _ _ => rfl) rfl
    hg (ok_one (by kernel_rfl) rfl (okWide_bool_mk Try.underlying4 _))⟩

theorem SpinTells_over : Rows.spinTellsRow.holds Try.pinned (OpenSpec.ofChange Rows.spinTellsSpec) :=
  OpenClaim.holds_of_wide 3 Try.f3 rfl rfl rfl rfl rfl rfl rfl ⟨rfl, rfl, rfl, rfl, rfl⟩ rfl rfl rfl rfl rfl (by kernel_rfl) Try.func3 (by kernel_rfl)
    (of_decide_eq_true (by kernel_rfl)) (by unfold Func.isWrapper; first | (rw [if_pos (by decide +kernel)]; kernel_rfl) | (rw [if_neg (by decide +kernel)]; exact ⟨rfl, rfl⟩))
    (fun os started H enc _ => SpinTells_lifted os started H enc)

/-- The statement. -/
theorem SpinTells_holds : Rows.SpinTellsSaid :=
  SpinTells_over
#print axioms SpinTells_holds
end Go.Proofs.Ytibbndoohpfbmaa
