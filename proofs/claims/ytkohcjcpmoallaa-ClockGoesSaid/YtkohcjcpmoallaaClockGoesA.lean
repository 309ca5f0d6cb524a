/-
  deadboltlaw04.ClockGoes: the walk, where from is not ahead of now.
-/
import Derived.Test.YtkohcjcpmoallaaClockGoesIs
namespace Go.Proofs.Ytkohcjcpmoallaa
open Go.ChangeShapes Go.WideShapes Go.ChangeAt Go.RowKit
set_option linter.unusedVariables false

set_option maxHeartbeats 8000000 in
set_option maxRecDepth 100000 in
theorem goes_runA (w : World) (n a b f N A B F x y p W s u v : Int) (e l : Bool)
    (hN : wrap64 ((IntKind.u64.wrap n).tmod 1152921504606846976) = N) (hA : wrap64 ((IntKind.u64.wrap a).tmod 1152921504606846976) = A) (hB : wrap64 ((IntKind.u64.wrap b).tmod 1152921504606846976) = B) (hF : wrap64 ((IntKind.u64.wrap f).tmod 1152921504606846976) = F)
    (bA : 0 ≤ A ∧ A < 1152921504606846976) (bB : 0 ≤ B ∧ B < 1152921504606846976) (bF : 0 ≤ F ∧ F < 1152921504606846976) (by_ : 0 ≤ y ∧ y ≤ 4611686018427387904)
    (H : GoesIs N A B F x y p W s u v e l) (hs : A + B = s) (wu : u ≤ W) (wv : v ≤ W) (ws : s ≤ W)
    (hc : (e = false ∧ W = u ∧ u ≠ 0 ∧ v = 0) ∨ (e = false ∧ W = u ∧ u = 0) ∨ (e = false ∧ W ≠ u ∧ W ≠ v ∧ W = s ∧ u = 0) ∨ (e = false ∧ W ≠ u ∧ W ≠ v ∧ W = s ∧ u ≠ 0 ∧ v = 0)) :
    Calls Try.prog 4 #[.int .i64 n, .int .i64 a, .int .i64 b, .int .i64 f] w fun e w' => e = .returned (.bool true) ∧ Gr w w' := by
  obtain ⟨t1, t2, t3, t4, l1, l2, s1, sp, s2, s3⟩ := H
  have c1 := fun w => Lib.hid (t1 w)
  have c2 := fun w => Lib.hid (t2 w)
  have c3 := fun w => Lib.hid (t3 w)
  have c4 := fun w => Lib.hid (t4 w)
  have c5 := fun w => Lib.hid (l1 w)
  have c6 := fun w => Lib.hid (l2 w)
  have c7 := fun w => Lib.hid (s1 w)
  have c8 := fun w => Lib.hid (sp w)
  have c9 := fun w => Lib.hid (s2 w)
  have c10 := fun w => Lib.hid (s3 w)
  have HN := Lib.hid hN
  have HA := Lib.hid hA
  have HB := Lib.hid hB
  have HF := Lib.hid hF
  clear t1 t2 t3 t4 l1 l2 s1 sp s2 s3 hN hA hB hF
  go_enter Try.func4, Try.ntmps4
  go_wp2_with fail
  rw [HN.out, HA.out, HB.out, HF.out]
  clear HN HA HB HF
  refine (c1 _).out.mono ?_
  rintro e w1 ⟨rfl, hb1⟩
  have G := hb1
  clear hb1
  go_wp2_with fail
  refine (c2 _).out.mono ?_
  rintro e w2 ⟨rfl, hb2⟩
  replace G := G.trans hb2
  clear hb2
  go_wp2_with fail
  refine (c3 _).out.mono ?_
  rintro e w3 ⟨rfl, hb3⟩
  replace G := G.trans hb3
  clear hb3
  go_wp2_with fail
  refine (c4 _).out.mono ?_
  rintro e w4 ⟨rfl, hb4⟩
  replace G := G.trans hb4
  clear hb4
  go_wp2_with fail
  refine (c5 _).out.mono ?_
  rintro e w5 ⟨rfl, hb5⟩
  replace G := G.trans hb5
  clear hb5
  go_wp2_with fail
  refine (c6 _).out.mono ?_
  rintro e w6 ⟨rfl, hb6⟩
  replace G := G.trans hb6
  clear hb6
  go_wp2_with fail
  refine (c7 _).out.mono ?_
  rintro e w7 ⟨rfl, hb7⟩
  replace G := G.trans hb7
  clear hb7
  go_wp2_with fail
  refine (c8 _).out.mono ?_
  rintro e w8 ⟨rfl, hb8⟩
  replace G := G.trans hb8
  clear hb8
  go_wp2_with fail
  refine (c9 _).out.mono ?_
  rintro e w9 ⟨rfl, hb9⟩
  replace G := G.trans hb9
  clear hb9
  go_wp2_with fail
  refine (c10 _).out.mono ?_
  rintro e w10 ⟨rfl, hb10⟩
  replace G := G.trans hb10
  clear hb10 c1 c2 c3 c4 c5 c6 c7 c8 c9 c10
  go_wp2_with fail
  refine (alive4_ok _).mono ?_
  rintro e w11 ⟨rfl, hb11⟩
  replace G := G.trans hb11
  clear hb11
  rcases hc with ⟨rfl, rfl, g, rfl⟩ | ⟨rfl, rfl, rfl⟩ | ⟨rfl, g1, g2, rfl, rfl⟩ | ⟨rfl, g1, g2, rfl, g, rfl⟩
  · have g' : (W == 0) = false := beq_eq_false_iff_ne.2 g
    clear g
    go_wp2_with fail
    go_ret
    exact ⟨rfl, G⟩
  · go_wp2_with fail
    go_ret
    exact ⟨rfl, G⟩
  · have g1' : (W == 0) = false := beq_eq_false_iff_ne.2 g1
    have g2' : (W == v) = false := beq_eq_false_iff_ne.2 g2
    clear g1 g2
    go_wp2_with fail
    go_ret
    exact ⟨rfl, G⟩
  · have g1' : (W == u) = false := beq_eq_false_iff_ne.2 g1
    have g2' : (W == 0) = false := beq_eq_false_iff_ne.2 g2
    have g' : (u == 0) = false := beq_eq_false_iff_ne.2 g
    clear g1 g2 g
    go_wp2_with fail
    go_ret
    exact ⟨rfl, G⟩
end Go.Proofs.Ytkohcjcpmoallaa
