/-
  deadboltlaw14.GrabWants, where the mutex is locked.
-/
import Derived.Test.YtddgihbgdlnlbaaGrabAlive
import Derived.Test.YtddgihbgdlnlbaaOpenOwn
import Derived.Test.YtddgihbgdlnlbaaEnds
import Derived.Deep.DeepCutAuto
namespace Go.Proofs.Ytddgihbgdlnlbaa
open Go.ChangeShapes Go.WideShapes Go.ChangeAt Go.RowKit Go.Deep
set_option linter.unusedVariables false
set_option linter.unusedSimpArgs false
set_option maxRecDepth 100000

open P14 P3 P4

section
variable {s r : Int} {t k a b c : Bool} {n u o x y : Int} {w : World}
set_option maxHeartbeats 16000000 in
theorem GrabWants_tf (h : OkS s r) (hn : OkN n) (hb : b = true ∨ k = false) (hm : OkN (n + more a c)) (ha : a = true) (hc : c = false) :
    Calls Try.prog 5 #[ov s t k r (pw a b c n)] w fun e w' => e = .returned (.bool true) ∧ Gr w w' := by
  have AL := fun w => Lib.hid (alive_is w)
  obtain ⟨m, hm1⟩ : ∃ m, n + more a c = m := ⟨_, rfl⟩
  have W := fun w => Lib.hid (Wants_yes (t := t) (w := w) h hn hb hm)
  have GT := fun w => Lib.hid (Got_yes (t := t) (k := k) (a := a) (b := b) (c := c) (w := w) h hn)
  have U1 := fun w => Lib.hid (P3.Unpack_ok a b c n hn w)
  have U2 := fun w => Lib.hid (P3.Unpack_ok (a || !c) (b && !k) (c || (t && a)) (n + more a c) hm w)
  have hw1 : wrap64 (n + 1) = m := by rw [← hm1, ha, hc, show more true false = 1 from rfl]; unfold OkN at hn; unfold wrap64; omega
  rw [hm1] at W U2
  generalize pw a b c n = v at *
  generalize pw (a || !c) (b && !k) (c || (t && a)) m = x at *
  have N0 := Blk.new w #[.int .i64 s, .bool t, .bool k, .int .i64 r, .int .i64 v] 23
  have G0 := (Gr.refl w).al (.cells #[.int .i64 s, .bool t, .bool k, .int .i64 r, .int .i64 v] 23)
  have NA := Lib.hid fun w1 => Blk.new w1 #[.bool a, .bool b, .bool c, .int .i64 n] 43
  have NC := Lib.hid fun w1 => Blk.new w1 #[.bool (a || !c), .bool (b && !k), .bool (c || (t && a)), .int .i64 m] 43
  clear h hn hm hm1
  have hk : (b = true ∧ k = true) ∨ (b = true ∧ k = false) ∨ (b = false ∧ k = false) := by
    rcases hb with rfl | rfl
    · cases k <;> simp
    · cases b <;> simp
  clear hb
  subst ha hc
  rcases hk with ⟨rfl, rfl⟩ | ⟨rfl, rfl⟩ | ⟨rfl, rfl⟩ <;> cases t
  all_goals simp only [Bool.true_and, Bool.false_and, Bool.and_true, Bool.and_false, Bool.true_or, Bool.false_or, Bool.or_true, Bool.or_false, Bool.not_true, Bool.not_false] at W GT U2 NC
  all_goals (
    go_enter Try.func5, Try.ntmps5
    go_wp2_with fail
    with_reducible refine (W _).out.mono ?_
    rintro e w1 ⟨rfl, g1⟩
    have l1 := (N0.gr g1).lt
    obtain ⟨⟨q0, q1, q2, q3, q4⟩, -⟩ := own_cells (N0.gr g1)
    go_wp2_with fail
    with_reducible refine (GT _).out.mono ?_
    rintro e w2 ⟨rfl, g2⟩
    have B2 := (N0.gr g1).gr g2
    have G2 := (G0.trans g1).trans g2
    have l2 := B2.lt
    clear q0 q1 q2 q3 q4 l1 g1 g2
    obtain ⟨⟨q0, q1, q2, q3, q4⟩, -⟩ := own_cells B2
    go_wp2_with fail
    with_reducible refine (U1 _).out.mono ?_
    rintro e w3 ⟨rfl, g3⟩
    clear q0 q1 q2 q3 q4
    go_wp2_with fail
    with_reducible refine (U2 _).out.mono ?_
    rintro e w4 ⟨rfl, g4⟩
    have A4 := Lib.hid ((NA.out w3).gr g4)
    have G4 := Lib.hid (((G2.trans g3).al _).trans g4)
    have B4 := Lib.hid (((B2.gr g3).al _).gr g4)
    have l4 := A4.out.lt
    obtain ⟨a0, -⟩ := A4.out.at_ (k := 0) rfl
    obtain ⟨a2, -⟩ := A4.out.at_ (k := 2) rfl
    clear B2 G2 g3 g4
    go_wp2_with fail
    with_reducible refine (AL _).out.mono ?_
    rintro e w5 ⟨rfl, g5⟩
    clear a0 a2
    have A5 := (A4.out.al _).gr g5
    have C5 := (NC.out w4).gr g5
    have B5 := (B4.out.al _).gr g5
    have G5 := Lib.hid ((G4.out.al _).trans g5)
    have q1 := (B5.at_ (k := 1) rfl).1
    have q2 := (B5.at_ (k := 2) rfl).1
    have a0 := (A5.at_ (k := 0) rfl).1
    have a1 := (A5.at_ (k := 1) rfl).1
    have a2 := (A5.at_ (k := 2) rfl).1
    have a3 := (A5.at_ (k := 3) rfl).1
    have b0 := (C5.at_ (k := 0) rfl).1
    have b1 := (C5.at_ (k := 1) rfl).1
    have b2 := (C5.at_ (k := 2) rfl).1
    have b3 := (C5.at_ (k := 3) rfl).1
    clear A4 A5 B4 B5 C5 G4 g5 NA NC
    go_wp2_with fail
    go_ret
    exact ⟨rfl, G5.out⟩)
set_option maxHeartbeats 16000000 in
theorem GrabWants_tt (h : OkS s r) (hn : OkN n) (hb : b = true ∨ k = false) (hm : OkN (n + more a c)) (ha : a = true) (hc : c = true) :
    Calls Try.prog 5 #[ov s t k r (pw a b c n)] w fun e w' => e = .returned (.bool true) ∧ Gr w w' := by
  have AL := fun w => Lib.hid (alive_is w)
  obtain ⟨m, hm1⟩ : ∃ m, n + more a c = m := ⟨_, rfl⟩
  have W := fun w => Lib.hid (Wants_yes (t := t) (w := w) h hn hb hm)
  have GT := fun w => Lib.hid (Got_yes (t := t) (k := k) (a := a) (b := b) (c := c) (w := w) h hn)
  have U1 := fun w => Lib.hid (P3.Unpack_ok a b c n hn w)
  have U2 := fun w => Lib.hid (P3.Unpack_ok (a || !c) (b && !k) (c || (t && a)) (n + more a c) hm w)
  have hw1 : wrap64 (n + 1) = m := by rw [← hm1, ha, hc, show more true true = 1 from rfl]; unfold OkN at hn; unfold wrap64; omega
  rw [hm1] at W U2
  generalize pw a b c n = v at *
  generalize pw (a || !c) (b && !k) (c || (t && a)) m = x at *
  have N0 := Blk.new w #[.int .i64 s, .bool t, .bool k, .int .i64 r, .int .i64 v] 23
  have G0 := (Gr.refl w).al (.cells #[.int .i64 s, .bool t, .bool k, .int .i64 r, .int .i64 v] 23)
  have NA := Lib.hid fun w1 => Blk.new w1 #[.bool a, .bool b, .bool c, .int .i64 n] 43
  have NC := Lib.hid fun w1 => Blk.new w1 #[.bool (a || !c), .bool (b && !k), .bool (c || (t && a)), .int .i64 m] 43
  clear h hn hm hm1
  have hk : (b = true ∧ k = true) ∨ (b = true ∧ k = false) ∨ (b = false ∧ k = false) := by
    rcases hb with rfl | rfl
    · cases k <;> simp
    · cases b <;> simp
  clear hb
  subst ha hc
  rcases hk with ⟨rfl, rfl⟩ | ⟨rfl, rfl⟩ | ⟨rfl, rfl⟩
  all_goals simp only [Bool.true_and, Bool.false_and, Bool.and_true, Bool.and_false, Bool.true_or, Bool.false_or, Bool.or_true, Bool.or_false, Bool.not_true, Bool.not_false] at W GT U2 NC
  all_goals (
    go_enter Try.func5, Try.ntmps5
    go_wp2_with fail
    with_reducible refine (W _).out.mono ?_
    rintro e w1 ⟨rfl, g1⟩
    have l1 := (N0.gr g1).lt
    obtain ⟨⟨q0, q1, q2, q3, q4⟩, -⟩ := own_cells (N0.gr g1)
    go_wp2_with fail
    with_reducible refine (GT _).out.mono ?_
    rintro e w2 ⟨rfl, g2⟩
    have B2 := (N0.gr g1).gr g2
    have G2 := (G0.trans g1).trans g2
    have l2 := B2.lt
    clear q0 q1 q2 q3 q4 l1 g1 g2
    obtain ⟨⟨q0, q1, q2, q3, q4⟩, -⟩ := own_cells B2
    go_wp2_with fail
    with_reducible refine (U1 _).out.mono ?_
    rintro e w3 ⟨rfl, g3⟩
    clear q0 q1 q2 q3 q4
    go_wp2_with fail
    with_reducible refine (U2 _).out.mono ?_
    rintro e w4 ⟨rfl, g4⟩
    have A4 := Lib.hid ((NA.out w3).gr g4)
    have G4 := Lib.hid (((G2.trans g3).al _).trans g4)
    have B4 := Lib.hid (((B2.gr g3).al _).gr g4)
    have l4 := A4.out.lt
    obtain ⟨a0, -⟩ := A4.out.at_ (k := 0) rfl
    obtain ⟨a2, -⟩ := A4.out.at_ (k := 2) rfl
    clear B2 G2 g3 g4
    go_wp2_with fail
    with_reducible refine (AL _).out.mono ?_
    rintro e w5 ⟨rfl, g5⟩
    clear a0 a2
    have A5 := (A4.out.al _).gr g5
    have C5 := (NC.out w4).gr g5
    have B5 := (B4.out.al _).gr g5
    have G5 := Lib.hid ((G4.out.al _).trans g5)
    have q1 := (B5.at_ (k := 1) rfl).1
    have q2 := (B5.at_ (k := 2) rfl).1
    have a0 := (A5.at_ (k := 0) rfl).1
    have a1 := (A5.at_ (k := 1) rfl).1
    have a2 := (A5.at_ (k := 2) rfl).1
    have a3 := (A5.at_ (k := 3) rfl).1
    have b0 := (C5.at_ (k := 0) rfl).1
    have b1 := (C5.at_ (k := 1) rfl).1
    have b2 := (C5.at_ (k := 2) rfl).1
    have b3 := (C5.at_ (k := 3) rfl).1
    clear A4 A5 B4 B5 C5 G4 g5 NA NC
    go_wp2_with fail
    go_ret
    exact ⟨rfl, G5.out⟩)
end
end Go.Proofs.Ytddgihbgdlnlbaa
