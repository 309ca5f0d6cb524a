/-
  deadboltlaw12.ProgParses: the walk of the law.
-/
import Derived.Test.YtocojdiapaeajaaDoorProgBack
import Derived.Test.YtocojdiapaeajaaDoorProgRefG
namespace Go.Proofs.YtocojdiapaeajaaDoor
open Go.ChangeShapes Go.WideShapes Go.ChangeAt Go.RowKit
set_option linter.unusedVariables false
set_option linter.unusedSimpArgs false
set_option maxRecDepth 100000
namespace P12

set_option maxHeartbeats 4000000 in
theorem ProgParses_walk {w : World} (hg : Glob w) (S : ByteArray) (hS : S.size ≤ maxLen) :
    Calls Tryd.prog 3 #[.string S] w fun e w' => e = .returned (.bool true) ∧ Gr w w' := by
  obtain ⟨M, t, hM, hMS, hext, htl⟩ := cut_text S 2100
  have m0 : (0 : Int) ≤ (M : Int) := by omega
  have m1 : (M : Int) ≤ (S.size : Int) := by omega
  have m2 : min (S.size : Int) 2100 = (M : Int) := by rw [← hM]; omega
  have hM' : (if (2100 : Int) < (S.size : Int) then (2100 : Int) else (S.size : Int)) = (M : Int) := hM
  obtain ⟨⟨e0, k0, P⟩, hprs⟩ : ∃ x, prs t = x := ⟨_, rfl⟩
  have cp := Lib.hid (Parse_is (t := t) (by omega) hg hprs)
  have cr := fun W => Lib.hid (rParse_is (s := t) (by omega) hprs W)
  have cal := fun W (g : Gr w W) => Lib.hid (alive_is (hg.gr g))
  have hee : (e0 == e0) = true := beq_self_eq_true _
  have hkk : (k0 == k0) = true := beq_self_eq_true _
  have hl : Hid (P.length ≤ 8 ∨ P.length ≤ 9223372036854775807) := Lib.hid (by
    by_cases he : e0 = 0
    · have h1 := prs_right (t := t) (by rw [hprs]; exact he)
      rw [hprs] at h1
      exact .inl (right_iff.1 h1.1).1
    · have h1 := prs_bad (t := t) (by rw [hprs]; exact he)
      rw [hprs] at h1
      have h2 : P = [] := h1
      rw [h2]
      exact .inl (Nat.zero_le _))
  clear hM hS hprs htl
  go_enter Tryd.func3, Tryd.ntmps3
  go_wp2_with fail
  with_reducible refine cp.out.mono ?_
  rintro e w1 ⟨⟨A1, n1, c1, rfl, R1, hR1, hO1⟩, hb1⟩
  have HR1 := Lib.hid hR1
  have HM1 := Lib.hid hO1.mem
  have G1 := Lib.hid hb1
  clear hb1 hR1 hO1 cp hM' m0 m1 m2 hext hMS
  go_wp2_with fail
  with_reducible refine (cr _).out.mono ?_
  rintro e w2 ⟨⟨A2, n2, c2, R2, rfl, hR2, hM2⟩, hb2⟩
  have HR2 := Lib.hid hR2
  have HM2 := Lib.hid hM2
  have HM1b := Lib.hid (HM1.out.gr hb2)
  have G2 := Lib.hid (G1.out.trans hb2)
  clear hb2 hR2 hM2 cr HM1 G1
  go_wp2_with fail
  with_reducible refine (cal _ G2.out).out.mono ?_
  rintro e w3 ⟨rfl, hb3⟩
  have cS := Lib.hid (rSame_is (c := c1) (d := c2) (v := true) (by rw [HR1.out, HR2.out]; exact beq_self_eq_true _)
    (by have h1 := pmem_len HM1b.out; rw [HR1.out] at h1; have := hl.out; omega) (by have h1 := pmem_len HM2.out; rw [HR2.out] at h1; have := hl.out; omega) w3 (HM1b.out.gr hb3) (HM2.out.gr hb3))
  have G3 := Lib.hid (G2.out.trans hb3)
  clear hb3 G2
  go_wp2_with fail
  with_reducible refine cS.out.mono ?_
  rintro e w4 ⟨rfl, q4, hq4⟩
  have G4 := Lib.hid (G3.out.trans (show Gr w3 w4 from by rw [hq4]; exact (Gr.refl w3).drN q4))
  clear hq4 cS
  go_wp2_with fail
  go_ret
  exact ⟨rfl, G4.out⟩
end P12
end Go.Proofs.YtocojdiapaeajaaDoor
