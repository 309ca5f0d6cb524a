/-
  ParkTells, for every input: which goroutines may be, any behind one that parks, that is told, or that ends, and who runs, is as the document says, or refused. No condition.
-/
import Derived.Test.YtgloccbcbgpneaaParkLaw
import Derived.Test.YtgloccbcbgpneaaEnds
namespace Go.Proofs.Ytgloccbcbgpneaa
open Go.ChangeShapes Go.WideShapes Go.ChangeAt Go.RowKit P11
set_option linter.unusedVariables false

theorem outc_len (p : G → Int × G) (l : List G) (who : Int) : (outc p l who).2.length ≤ l.length := by
  unfold outc
  split
  · exact Nat.zero_le _
  · split
    · exact Nat.zero_le _
    · split
      · exact Nat.zero_le _
      · split
        · simp
        · exact Nat.zero_le _
theorem gotR_n {w w' : World} {r : Int × List G} {N : Nat} {q : Int} {R : List G} {e : Ending} (h : GotR w r e w') (hr : r = (q, R)) (hl : R.length = N) :
    ∃ B m, e = .returned (.tuple #[.slice B N m, .int .i64 q]) ∧ GMem w' B N R ∧ Gr w w' := by
  subst hr
  obtain ⟨B, m, h1, h2, h3⟩ := h
  simp only [hl] at h1 h2
  exact ⟨B, m, h1, h2, h3⟩

section
variable {w : World} {A : Option Addr} {n0 n c : Nat} {l : List G} {who : Int}
set_option maxHeartbeats 8000000 in
theorem tells_arg (c0 : Hid (Calls Try.prog 7 #[.slice A n0 c] w fun e w' => e = .returned (.slice A n c) ∧ w' = w)) (hn : n ≤ 12) (hm : GMem w A n l) (hr : rightB l = false) :
    Calls Try.prog 3 #[.slice A n0 c, .int .i64 who] w fun e w' => e = .returned (.bool true) ∧ Gr w w' := by
  have HM := Lib.hid hm
  have p1 := fun w hm => Lib.hid (Park_at (A := A) (c := c) (n := n) (who := who) (N := 0) (by omega) (outc_arg hr) rfl w hm)
  have p2 := fun w hm => Lib.hid (Ready_at (A := A) (c := c) (n := n) (who := who) (N := 0) (by omega) (outc_arg hr) rfl w hm)
  have p3 := fun w hm => Lib.hid (End_at (A := A) (c := c) (n := n) (who := who) (N := 0) (by omega) (outc_arg hr) rfl w hm)
  have pr := fun w hm => Lib.hid (Runnable_no (A := A) (c := c) (n := n) (by omega) hr w hm)
  have pt := fun w hm => Lib.hid (Right_is (A := A) (c := c) (n := n) hr (by omega) w hm)
  have rt := fun w hm => Lib.hid (rRight_is (A := A) (c := c) (n := n) hr (by omega) w hm)
  have wy := fun w hm => Lib.hid (Why_arg (A := A) (c := c) (n := n) (a := who) (w := w) (by omega) hr hm)
  have ca := fun w => Lib.hid (alive_ok w)
  clear hm hr hn
  go_enter Try.func3, Try.ntmps3
  go_wp2_with fail
  with_reducible refine c0.out.mono ?_
  rintro e w1 ⟨rfl, rfl⟩
  go_wp2_with fail
  with_reducible refine (p1 _ HM.out).out.mono ?_
  rintro e w1 ⟨B1, m1, rfl, hB1, hm1, -, g1⟩
  have H1 := Lib.hid (HM.out.gr g1)
  have K1 := Lib.hid hB1
  have G1 := Lib.hid g1
  clear g1 hB1
  go_wp2_with fail
  with_reducible refine (p2 _ H1.out).out.mono ?_
  rintro e w2 ⟨B2, m2, rfl, hB2, hm2, -, g2⟩
  replace H1 := Lib.hid (H1.out.gr g2)
  replace K1 := Lib.hid (K1.out.gr g2)
  have K2 := Lib.hid hB2
  have G2 := Lib.hid (G1.out.trans g2)
  clear g2 hB2 G1
  go_wp2_with fail
  with_reducible refine (p3 _ H1.out).out.mono ?_
  rintro e w3 ⟨B3, m3, rfl, hB3, hm3, -, g3⟩
  replace H1 := Lib.hid (H1.out.gr g3)
  replace K1 := Lib.hid (K1.out.gr g3)
  replace K2 := Lib.hid (K2.out.gr g3)
  have K3 := Lib.hid hB3
  have G3 := Lib.hid (G2.out.trans g3)
  clear g3 hB3 G2
  go_wp2_with fail
  with_reducible refine (pr _ H1.out).out.mono ?_
  rintro e w4 ⟨rfl, g4⟩
  replace H1 := Lib.hid (H1.out.gr g4)
  replace K1 := Lib.hid (K1.out.gr g4)
  replace K2 := Lib.hid (K2.out.gr g4)
  replace K3 := Lib.hid (K3.out.gr g4)
  have G4 := Lib.hid (G3.out.trans g4)
  clear g4 G3
  go_wp2_with fail
  with_reducible refine (pt _ H1.out).out.mono ?_
  rintro e w5 ⟨rfl, g5⟩
  replace H1 := Lib.hid (H1.out.gr g5)
  have G5 := Lib.hid (G4.out.trans g5)
  clear g5 G4
  go_wp2_with fail
  with_reducible refine (rt _ H1.out).out.mono ?_
  rintro e w6 ⟨rfl, g6⟩
  replace H1 := Lib.hid (H1.out.gr g6)
  have G6 := Lib.hid (G5.out.trans g6)
  clear g6 G5
  go_wp2_with fail
  with_reducible refine (ca _).out.mono ?_
  rintro e w7 ⟨rfl, g7⟩
  replace H1 := Lib.hid (H1.out.gr g7)
  have G7 := Lib.hid (G6.out.trans g7)
  clear g7 G6
  go_wp2_with fail
  with_reducible refine (rt _ H1.out).out.mono ?_
  rintro e w8 ⟨rfl, g8⟩
  replace H1 := Lib.hid (H1.out.gr g8)
  have G8 := Lib.hid (G7.out.trans g8)
  clear g8 G7
  go_wp2_with fail
  with_reducible refine (wy _ H1.out).out.mono ?_
  rintro e w9 ⟨rfl, g9⟩
  replace H1 := Lib.hid (H1.out.gr g9)
  have G9 := Lib.hid (G8.out.trans g9)
  clear g9 G8
  go_wp2_with fail
  go_ret
  exact ⟨rfl, G9.out⟩
set_option maxHeartbeats 8000000 in
theorem tells_range (c0 : Hid (Calls Try.prog 7 #[.slice A n0 c] w fun e w' => e = .returned (.slice A n c) ∧ w' = w)) (hn : n ≤ 12) (hm : GMem w A n l) (hr : rightB l = true) (hw : who < 0 ∨ (n : Int) ≤ who) :
    Calls Try.prog 3 #[.slice A n0 c, .int .i64 who] w fun e w' => e = .returned (.bool true) ∧ Gr w w' := by
  have ho := fun p => outc_range (p := p) hr (by rw [hm.1]; exact hw)
  have HM := Lib.hid hm
  have p1 := fun w hm => Lib.hid (Park_at (A := A) (c := c) (n := n) (who := who) (N := 0) (by omega) (ho _) rfl w hm)
  have p2 := fun w hm => Lib.hid (Ready_at (A := A) (c := c) (n := n) (who := who) (N := 0) (by omega) (ho _) rfl w hm)
  have p3 := fun w hm => Lib.hid (End_at (A := A) (c := c) (n := n) (who := who) (N := 0) (by omega) (ho _) rfl w hm)
  obtain ⟨v, hv⟩ : ∃ v, (rn l).length = v := ⟨_, rfl⟩
  have hv8 : v ≤ n := by rw [← hv, ← hm.1]; exact rnK_len l _
  have pr := fun w hm => Lib.hid (Runnable_at (A := A) (c := c) (n := n) (by omega) hr hv w hm)
  have rr := fun w hm => Lib.hid (rRunnable_is (A := A) (c := c) (n := n) (l := l) (w := w) (by omega) hm)
  rw [hv] at rr
  have pt := fun w hm => Lib.hid (Right_is (A := A) (c := c) (n := n) hr (by omega) w hm)
  have rt := fun w hm => Lib.hid (rRight_is (A := A) (c := c) (n := n) hr (by omega) w hm)
  have ca := fun w => Lib.hid (alive_ok w)
  have ss := fun A B c d w hA hB => Lib.hid (rSame_is (A := A) (B := B) (c := c) (d := d) (n := v) (m := v) (w := w) (l := rn l) (r := rn l) hA hB (by omega) (by omega) (v := true) (by simp))
  have wy := fun w hm => Lib.hid (Why_range (A := A) (c := c) (n := n) (a := who) (w := w) (by omega) hr hw hm)
  clear hm hr hn ho hw hv
  go_enter Try.func3, Try.ntmps3
  go_wp2_with fail
  with_reducible refine c0.out.mono ?_
  rintro e w1 ⟨rfl, rfl⟩
  go_wp2_with fail
  with_reducible refine (p1 _ HM.out).out.mono ?_
  rintro e w1 ⟨B1, m1, rfl, hB1, hm1, -, g1⟩
  have H1 := Lib.hid (HM.out.gr g1)
  have K1 := Lib.hid hB1
  have G1 := Lib.hid g1
  clear g1 hB1
  go_wp2_with fail
  with_reducible refine (p2 _ H1.out).out.mono ?_
  rintro e w2 ⟨B2, m2, rfl, hB2, hm2, -, g2⟩
  replace H1 := Lib.hid (H1.out.gr g2)
  replace K1 := Lib.hid (K1.out.gr g2)
  have K2 := Lib.hid hB2
  have G2 := Lib.hid (G1.out.trans g2)
  clear g2 hB2 G1
  go_wp2_with fail
  with_reducible refine (p3 _ H1.out).out.mono ?_
  rintro e w3 ⟨B3, m3, rfl, hB3, hm3, -, g3⟩
  replace H1 := Lib.hid (H1.out.gr g3)
  replace K1 := Lib.hid (K1.out.gr g3)
  replace K2 := Lib.hid (K2.out.gr g3)
  have K3 := Lib.hid hB3
  have G3 := Lib.hid (G2.out.trans g3)
  clear g3 hB3 G2
  go_wp2_with fail
  with_reducible refine (pr _ H1.out).out.mono ?_
  rintro e w4 ⟨C4, d4, rfl, hC4, hd4, g4⟩
  replace H1 := Lib.hid (H1.out.gr g4)
  replace K1 := Lib.hid (K1.out.gr g4)
  replace K2 := Lib.hid (K2.out.gr g4)
  replace K3 := Lib.hid (K3.out.gr g4)
  have I4 := Lib.hid hC4
  clear hC4
  have G4 := Lib.hid (G3.out.trans g4)
  clear g4 G3
  go_wp2_with fail
  with_reducible refine (pt _ H1.out).out.mono ?_
  rintro e w5 ⟨rfl, g5⟩
  replace H1 := Lib.hid (H1.out.gr g5)
  replace I4 := Lib.hid (I4.out.gr g5)
  have G5 := Lib.hid (G4.out.trans g5)
  clear g5 G4
  go_wp2_with fail
  with_reducible refine (rt _ H1.out).out.mono ?_
  rintro e w6 ⟨rfl, g6⟩
  replace H1 := Lib.hid (H1.out.gr g6)
  replace I4 := Lib.hid (I4.out.gr g6)
  have G6 := Lib.hid (G5.out.trans g6)
  clear g6 G5
  go_wp2_with fail
  with_reducible refine (ca _).out.mono ?_
  rintro e w7 ⟨rfl, g7⟩
  replace H1 := Lib.hid (H1.out.gr g7)
  replace I4 := Lib.hid (I4.out.gr g7)
  have G7 := Lib.hid (G6.out.trans g7)
  clear g7 G6
  go_wp2_with fail
  with_reducible refine (rt _ H1.out).out.mono ?_
  rintro e w8 ⟨rfl, g8⟩
  replace H1 := Lib.hid (H1.out.gr g8)
  replace I4 := Lib.hid (I4.out.gr g8)
  have G8 := Lib.hid (G7.out.trans g8)
  clear g8 G7
  go_wp2_with fail
  with_reducible refine (rr _ H1.out).out.mono ?_
  rintro e w9 ⟨C9, d9, rfl, hC9, g9⟩
  replace H1 := Lib.hid (H1.out.gr g9)
  replace I4 := Lib.hid (I4.out.gr g9)
  have I9 := Lib.hid hC9.mem
  clear hC9
  have G9 := Lib.hid (G8.out.trans g9)
  clear g9 G8
  go_wp2_with fail
  with_reducible refine (ss _ _ _ _ _ I4.out I9.out).out.mono ?_
  rintro e w10 ⟨rfl, g10⟩
  replace H1 := Lib.hid (H1.out.gr g10)
  clear I4 I9
  have G10 := Lib.hid (G9.out.trans g10)
  clear g10 G9
  go_wp2_with fail
  with_reducible refine (wy _ H1.out).out.mono ?_
  rintro e w11 ⟨rfl, g11⟩
  replace H1 := Lib.hid (H1.out.gr g11)
  have G11 := Lib.hid (G10.out.trans g11)
  clear g11 G10
  go_wp2_with fail
  go_ret
  exact ⟨rfl, G11.out⟩
set_option maxHeartbeats 8000000 in
theorem tells_in (c0 : Hid (Calls Try.prog 7 #[.slice A n0 c] w fun e w' => e = .returned (.slice A n c) ∧ w' = w)) (hn : n ≤ 12) (hm : GMem w A n l) (hr : rightB l = true) {k : Nat} (hwk : who = (k : Int)) (hk : k < n) :
    Calls Try.prog 3 #[.slice A n0 c, .int .i64 who] w fun e w' => e = .returned (.bool true) ∧ Gr w w' := by
  have HM := Lib.hid hm
  obtain ⟨x, hx⟩ : ∃ x, l[k]? = some x := ⟨_, List.getElem?_eq_getElem (by have := hm.1; omega)⟩
  have o1 := outc_at (p := pkG) hr hx
  have o2 := outc_at (p := rdG) hr hx
  have o3 := outc_at (p := enG) hr hx
  have z1 := outc_len pkG l who
  have z2 := outc_len rdG l who
  have z3 := outc_len enG l who
  rw [← hwk] at o1 o2 o3
  rw [hm.1] at z1 z2 z3
  have r1 := fun w hm => rPark_is (A := A) (c := c) (n := n) (w := w) (by omega) hx hm
  have r2 := fun w hm => rReady_is (A := A) (c := c) (n := n) (w := w) (by omega) hx hm
  have r3 := fun w hm => rEnd_is (A := A) (c := c) (n := n) (w := w) (by omega) hx hm
  rw [← o1, ← hwk] at r1
  rw [← o2, ← hwk] at r2
  rw [← o3, ← hwk] at r3
  clear o1 o2 o3
  obtain ⟨⟨q1, R1⟩, h1⟩ : ∃ r, outc pkG l who = r := ⟨_, rfl⟩
  obtain ⟨⟨q2, R2⟩, h2⟩ : ∃ r, outc rdG l who = r := ⟨_, rfl⟩
  obtain ⟨⟨q3, R3⟩, h3⟩ : ∃ r, outc enG l who = r := ⟨_, rfl⟩
  rw [h1] at z1 r1
  rw [h2] at z2 r2
  rw [h3] at z3 r3
  obtain ⟨N1, l1⟩ : ∃ N, R1.length = N := ⟨_, rfl⟩
  obtain ⟨N2, l2⟩ : ∃ N, R2.length = N := ⟨_, rfl⟩
  obtain ⟨N3, l3⟩ : ∃ N, R3.length = N := ⟨_, rfl⟩
  simp only [l1] at z1
  simp only [l2] at z2
  simp only [l3] at z3
  have p1 := fun w hm => Lib.hid (Park_at (A := A) (c := c) (n := n) (by omega) h1 l1 w hm)
  have k1 := fun w hm => Lib.hid ((r1 w hm).mono fun _ _ h => gotR_n h rfl l1)
  have s1 := fun A B c d w hA hB => Lib.hid (rSame_true A B N1 c d R1 w (by omega) hA hB)
  have p2 := fun w hm => Lib.hid (Ready_at (A := A) (c := c) (n := n) (by omega) h2 l2 w hm)
  have k2 := fun w hm => Lib.hid ((r2 w hm).mono fun _ _ h => gotR_n h rfl l2)
  have s2 := fun A B c d w hA hB => Lib.hid (rSame_true A B N2 c d R2 w (by omega) hA hB)
  have p3 := fun w hm => Lib.hid (End_at (A := A) (c := c) (n := n) (by omega) h3 l3 w hm)
  have k3 := fun w hm => Lib.hid ((r3 w hm).mono fun _ _ h => gotR_n h rfl l3)
  have s3 := fun A B c d w hA hB => Lib.hid (rSame_true A B N3 c d R3 w (by omega) hA hB)
  obtain ⟨v, hv⟩ : ∃ v, (rn l).length = v := ⟨_, rfl⟩
  have hv8 : v ≤ n := by rw [← hv, ← hm.1]; exact rnK_len l _
  have pr := fun w hm => Lib.hid (Runnable_at (A := A) (c := c) (n := n) (by omega) hr hv w hm)
  have rr := fun w hm => Lib.hid (rRunnable_is (A := A) (c := c) (n := n) (l := l) (w := w) (by omega) hm)
  rw [hv] at rr
  have pt := fun w hm => Lib.hid (Right_is (A := A) (c := c) (n := n) hr (by omega) w hm)
  have rt := fun w hm => Lib.hid (rRight_is (A := A) (c := c) (n := n) hr (by omega) w hm)
  have ca := fun w => Lib.hid (alive_ok w)
  have ss := fun A B c d w hA hB => Lib.hid (rSame_is (A := A) (B := B) (c := c) (d := d) (n := v) (m := v) (w := w) (l := rn l) (r := rn l) hA hB (by omega) (by omega) (v := true) (by simp))
  have wy := fun w hm => Lib.hid (Why_ok (A := A) (c := c) (n := n) (w := w) (by omega) hr hk hm)
  rw [← hwk] at wy
  clear hm hr hx h1 h2 h3 l1 l2 l3 r1 r2 r3 hwk hv
  go_enter Try.func3, Try.ntmps3
  go_wp2_with fail
  with_reducible refine c0.out.mono ?_
  rintro e w1 ⟨rfl, rfl⟩
  go_wp2_with fail
  with_reducible refine (p1 _ HM.out).out.mono ?_
  rintro e w1 ⟨B1, m1, rfl, hB1, hm1, -, g1⟩
  have H1 := Lib.hid (HM.out.gr g1)
  have K1 := Lib.hid hB1
  have G1 := Lib.hid g1
  clear g1 hB1
  go_wp2_with fail
  with_reducible refine (p2 _ H1.out).out.mono ?_
  rintro e w2 ⟨B2, m2, rfl, hB2, hm2, -, g2⟩
  replace H1 := Lib.hid (H1.out.gr g2)
  replace K1 := Lib.hid (K1.out.gr g2)
  have K2 := Lib.hid hB2
  have G2 := Lib.hid (G1.out.trans g2)
  clear g2 hB2 G1
  go_wp2_with fail
  with_reducible refine (p3 _ H1.out).out.mono ?_
  rintro e w3 ⟨B3, m3, rfl, hB3, hm3, -, g3⟩
  replace H1 := Lib.hid (H1.out.gr g3)
  replace K1 := Lib.hid (K1.out.gr g3)
  replace K2 := Lib.hid (K2.out.gr g3)
  have K3 := Lib.hid hB3
  have G3 := Lib.hid (G2.out.trans g3)
  clear g3 hB3 G2
  go_wp2_with fail
  with_reducible refine (pr _ H1.out).out.mono ?_
  rintro e w4 ⟨C4, d4, rfl, hC4, hd4, g4⟩
  replace H1 := Lib.hid (H1.out.gr g4)
  replace K1 := Lib.hid (K1.out.gr g4)
  replace K2 := Lib.hid (K2.out.gr g4)
  replace K3 := Lib.hid (K3.out.gr g4)
  have I4 := Lib.hid hC4
  clear hC4
  have G4 := Lib.hid (G3.out.trans g4)
  clear g4 G3
  go_wp2_with fail
  with_reducible refine (pt _ H1.out).out.mono ?_
  rintro e w5 ⟨rfl, g5⟩
  replace H1 := Lib.hid (H1.out.gr g5)
  replace K1 := Lib.hid (K1.out.gr g5)
  replace K2 := Lib.hid (K2.out.gr g5)
  replace K3 := Lib.hid (K3.out.gr g5)
  replace I4 := Lib.hid (I4.out.gr g5)
  have G5 := Lib.hid (G4.out.trans g5)
  clear g5 G4
  go_wp2_with fail
  with_reducible refine (rt _ H1.out).out.mono ?_
  rintro e w6 ⟨rfl, g6⟩
  replace H1 := Lib.hid (H1.out.gr g6)
  replace K1 := Lib.hid (K1.out.gr g6)
  replace K2 := Lib.hid (K2.out.gr g6)
  replace K3 := Lib.hid (K3.out.gr g6)
  replace I4 := Lib.hid (I4.out.gr g6)
  have G6 := Lib.hid (G5.out.trans g6)
  clear g6 G5
  go_wp2_with fail
  with_reducible refine (ca _).out.mono ?_
  rintro e w7 ⟨rfl, g7⟩
  replace H1 := Lib.hid (H1.out.gr g7)
  replace K1 := Lib.hid (K1.out.gr g7)
  replace K2 := Lib.hid (K2.out.gr g7)
  replace K3 := Lib.hid (K3.out.gr g7)
  replace I4 := Lib.hid (I4.out.gr g7)
  have G7 := Lib.hid (G6.out.trans g7)
  clear g7 G6
  go_wp2_with fail
  with_reducible refine (rt _ H1.out).out.mono ?_
  rintro e w8 ⟨rfl, g8⟩
  replace H1 := Lib.hid (H1.out.gr g8)
  replace K1 := Lib.hid (K1.out.gr g8)
  replace K2 := Lib.hid (K2.out.gr g8)
  replace K3 := Lib.hid (K3.out.gr g8)
  replace I4 := Lib.hid (I4.out.gr g8)
  have G8 := Lib.hid (G7.out.trans g8)
  clear g8 G7
  go_wp2_with fail
  with_reducible refine (rr _ H1.out).out.mono ?_
  rintro e w9 ⟨C9, d9, rfl, hC9, g9⟩
  replace H1 := Lib.hid (H1.out.gr g9)
  replace K1 := Lib.hid (K1.out.gr g9)
  replace K2 := Lib.hid (K2.out.gr g9)
  replace K3 := Lib.hid (K3.out.gr g9)
  replace I4 := Lib.hid (I4.out.gr g9)
  have I9 := Lib.hid hC9.mem
  clear hC9
  have G9 := Lib.hid (G8.out.trans g9)
  clear g9 G8
  go_wp2_with fail
  with_reducible refine (ss _ _ _ _ _ I4.out I9.out).out.mono ?_
  rintro e w10 ⟨rfl, g10⟩
  replace H1 := Lib.hid (H1.out.gr g10)
  replace K1 := Lib.hid (K1.out.gr g10)
  replace K2 := Lib.hid (K2.out.gr g10)
  replace K3 := Lib.hid (K3.out.gr g10)
  clear I4 I9
  have G10 := Lib.hid (G9.out.trans g10)
  clear g10 G9
  go_wp2_with fail
  with_reducible refine (wy _ H1.out).out.mono ?_
  rintro e w11 ⟨rfl, g11⟩
  replace H1 := Lib.hid (H1.out.gr g11)
  replace K1 := Lib.hid (K1.out.gr g11)
  replace K2 := Lib.hid (K2.out.gr g11)
  replace K3 := Lib.hid (K3.out.gr g11)
  have G11 := Lib.hid (G10.out.trans g11)
  clear g11 G10
  go_wp2_with fail
  with_reducible refine (k1 _ H1.out).out.mono ?_
  rintro e w12 ⟨E1, f1, rfl, hE1, g12⟩
  replace H1 := Lib.hid (H1.out.gr g12)
  replace K1 := Lib.hid (K1.out.gr g12)
  replace K2 := Lib.hid (K2.out.gr g12)
  replace K3 := Lib.hid (K3.out.gr g12)
  have J1 := Lib.hid hE1
  clear hE1
  have G12 := Lib.hid (G11.out.trans g12)
  clear g12 G11
  go_wp2_with fail
  with_reducible refine (k2 _ H1.out).out.mono ?_
  rintro e w13 ⟨E2, f2, rfl, hE2, g13⟩
  replace H1 := Lib.hid (H1.out.gr g13)
  replace K1 := Lib.hid (K1.out.gr g13)
  replace K2 := Lib.hid (K2.out.gr g13)
  replace K3 := Lib.hid (K3.out.gr g13)
  replace J1 := Lib.hid (J1.out.gr g13)
  have J2 := Lib.hid hE2
  clear hE2
  have G13 := Lib.hid (G12.out.trans g13)
  clear g13 G12
  go_wp2_with fail
  with_reducible refine (k3 _ H1.out).out.mono ?_
  rintro e w14 ⟨E3, f3, rfl, hE3, g14⟩
  replace H1 := Lib.hid (H1.out.gr g14)
  replace K1 := Lib.hid (K1.out.gr g14)
  replace K2 := Lib.hid (K2.out.gr g14)
  replace K3 := Lib.hid (K3.out.gr g14)
  replace J1 := Lib.hid (J1.out.gr g14)
  replace J2 := Lib.hid (J2.out.gr g14)
  have J3 := Lib.hid hE3
  clear hE3
  have G14 := Lib.hid (G13.out.trans g14)
  clear g14 G13
  go_wp2_with fail
  with_reducible refine (s1 _ _ _ _ _ K1.out J1.out).out.mono ?_
  rintro e w15 ⟨rfl, g15⟩
  replace H1 := Lib.hid (H1.out.gr g15)
  replace K1 := Lib.hid (K1.out.gr g15)
  replace K2 := Lib.hid (K2.out.gr g15)
  replace K3 := Lib.hid (K3.out.gr g15)
  replace J1 := Lib.hid (J1.out.gr g15)
  replace J2 := Lib.hid (J2.out.gr g15)
  replace J3 := Lib.hid (J3.out.gr g15)
  have G15 := Lib.hid (G14.out.trans g15)
  clear g15 G14
  go_wp2_with fail
  with_reducible refine (s2 _ _ _ _ _ K2.out J2.out).out.mono ?_
  rintro e w16 ⟨rfl, g16⟩
  replace H1 := Lib.hid (H1.out.gr g16)
  replace K1 := Lib.hid (K1.out.gr g16)
  replace K2 := Lib.hid (K2.out.gr g16)
  replace K3 := Lib.hid (K3.out.gr g16)
  replace J1 := Lib.hid (J1.out.gr g16)
  replace J2 := Lib.hid (J2.out.gr g16)
  replace J3 := Lib.hid (J3.out.gr g16)
  have G16 := Lib.hid (G15.out.trans g16)
  clear g16 G15
  go_wp2_with fail
  with_reducible refine (s3 _ _ _ _ _ K3.out J3.out).out.mono ?_
  rintro e w17 ⟨rfl, g17⟩
  replace H1 := Lib.hid (H1.out.gr g17)
  replace K1 := Lib.hid (K1.out.gr g17)
  replace K2 := Lib.hid (K2.out.gr g17)
  replace K3 := Lib.hid (K3.out.gr g17)
  replace J1 := Lib.hid (J1.out.gr g17)
  replace J2 := Lib.hid (J2.out.gr g17)
  replace J3 := Lib.hid (J3.out.gr g17)
  have G17 := Lib.hid (G16.out.trans g17)
  clear g17 G16
  go_wp2_with fail
  go_ret
  exact ⟨rfl, G17.out⟩
end

theorem ParkTells_walk (w : World) (A : Option Addr) (n0 c : Nat) (l0 : List G) (hc : n0 ≤ c) (hn : n0 ≤ 9223372036854775807) (hm0 : GMem w A n0 l0) (who : Int) (hw : B64 who) :
    Calls Try.prog 3 #[.slice A n0 c, .int .i64 who] w fun e w' => e = .returned (.bool true) ∧ Gr w w' := by
  obtain ⟨n, hmn⟩ : ∃ n, (12 < n0 ∧ n = 12) ∨ (n0 ≤ 12 ∧ n = n0) := by
    by_cases h : 12 < n0
    · exact ⟨12, .inl ⟨h, rfl⟩⟩
    · exact ⟨n0, .inr ⟨by omega, rfl⟩⟩
  have hm := hm0.take_ n (by omega)
  have c0 := Lib.hid (few_ok A n0 c n hc hn hmn w)
  by_cases hr : rightB (l0.take n) = true
  · by_cases hw : who < 0 ∨ (n : Int) ≤ who
    · exact tells_range c0 (by omega) hm hr hw
    · obtain ⟨k, hk⟩ : ∃ k : Nat, who = (k : Int) := ⟨who.toNat, by omega⟩
      exact tells_in c0 (by omega) hm hr hk (by omega)
  · exact tells_arg c0 (by omega) hm (by simpa using hr)

set_option maxRecDepth 100000 in
theorem ParkTells_lifted (os : Os) (started : os.Started) (H : Type) (enc : TypeId × Value → H) :
    ReturnsInHanded {} Try.checked os 3 .any (Rows.parkTellsSpec.pre6 enc Try.prog Try.f3 Rows.parkTellsRow.domain false) (Rows.parkTellsSpec.post enc Try.prog Try.f3 false true false false) := by
  refine returnsInHanded_of_change (C := Try.checked) own started (by kernel_rfl) Try.func3
    (ChangeSpec.witness6 (enc := enc) (C := Try.checked) false ⟨#[], #[.slice none 0 0, .int .i64 0], []⟩ 8 (by kernel_rfl) (by kernel_rfl) (by kernel_rfl) (by kernel_rfl)) ?_
  intro W base args ds gs before hval0 hW hcnd _
  have hval : ∀ (j : Nat) t v, Try.f3.params[j]? = some t → args[j]? = some v → Value.okWide Try.prog W .any base t v := hval0
  have hW' := hW
  obtain ⟨p, q, hA0, hV, rfl, hfz, hnd⟩ := hW
  have hA : DataW.TrodAll enc Try.prog W 0 (fun _ => true) true Try.f3.params.toList args.toList ds p := hA0
  rw [Try.params3] at hA hval
  have hK := hA
  obtain ⟨v0, vs0, d0, ds0, p0, q0, hargs, rfl, hp, h0, r0⟩ := trodAll_cons hA
  obtain ⟨v1, vs1, d1, ds1, p1, q1, rfl, rfl, rfl, h1, r1⟩ := trodAll_cons r0
  obtain ⟨rfl, rfl, rfl⟩ := trodAll_nil r1
  obtain rfl : args = #[v0, v1] := by cases args; simp_all
  obtain ⟨rfl, rfl⟩ := trodVars_none hV
  obtain ⟨A0, n0, c0, l0, rfl, hc0, hn0, hm0⟩ := P11.open_gors (hval 0 22 v0 rfl rfl) h0
  obtain ⟨a1, rfl, rfl, rfl, w1⟩ := open_int Try.underlying3 (hval 1 3 v1 rfl rfl) h1
  clear hA0 hval0
  refine (ParkTells_walk W A0 n0 c0 l0 hc0 hn0 hm0 a1 (wfb w1)).mono fun e W' ⟨he, hg⟩ => ?_
  subst he
  exact ⟨_, rfl, post_below (pa := p) (pv := []) hW' (fun _ _ _ => (trodAll_cons_mk (shut_bool Try.underlying4 _) trodAll_mk0))
    (fun sp hs => trodAll_stays laidOut hg sp (by kernel_rfl) hK (fun x hx => hW'.lt x (List.mem_append_left _ hx)) (fun x hx => hs x (List.mem_append_left _ hx))) (fun _ _ => rfl) rfl
    hg (ok_one (by kernel_rfl) rfl (okWide_bool_mk Try.underlying4 _))⟩

theorem ParkTells_over : Rows.parkTellsRow.holds Try.pinned (OpenSpec.ofChange Rows.parkTellsSpec) :=
  OpenClaim.holds_of_wide 3 Try.f3 rfl rfl rfl rfl rfl rfl rfl ⟨rfl, rfl, rfl, rfl, rfl⟩ rfl rfl rfl rfl rfl (by kernel_rfl) Try.func3 (by kernel_rfl)
    (of_decide_eq_true (by kernel_rfl)) (by unfold Func.isWrapper; first | (rw [if_pos (by decide +kernel)]; kernel_rfl) | (rw [if_neg (by decide +kernel)]; exact ⟨rfl, rfl⟩))
    (fun os started H enc _ => ParkTells_lifted os started H enc)

/-- The statement. -/
theorem ParkTells_holds : Rows.ParkTellsSaid :=
  ParkTells_over
#print axioms ParkTells_holds
end Go.Proofs.Ytgloccbcbgpneaa
