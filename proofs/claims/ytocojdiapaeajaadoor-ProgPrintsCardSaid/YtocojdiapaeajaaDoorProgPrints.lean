/-
  deadboltlaw12.ProgPrints: the walk of the law.
-/
import Derived.Test.YtocojdiapaeajaaDoorProgBack
import Derived.Test.YtocojdiapaeajaaDoorProgRefP
namespace Go.Proofs.YtocojdiapaeajaaDoor
open Go.ChangeShapes Go.WideShapes Go.ChangeAt Go.RowKit
set_option linter.unusedVariables false
set_option linter.unusedSimpArgs false
set_option maxRecDepth 100000
namespace P12

set_option maxHeartbeats 8000000 in
theorem ProgPrints_walk {w : World} (hg : Glob w) {A : Option Addr} {n c : Nat} {R : List PV} (hc : n ≤ c) (hn : n ≤ 9223372036854775807) (hm : PMem w A n R) :
    Calls Tryd.prog 4 #[.slice A n c] w fun e w' => e = .returned (.bool true) ∧ Gr w w' := by
  have cf := Lib.hid (few_is hm hc hn)
  have hg0 := Lib.hid hg
  have cal := fun W (g : Gr w W) => Lib.hid (alive_is (hg.gr g))
  clear hm hc hg
  go_enter Tryd.func4, Tryd.ntmps4
  go_wp2_with fail
  with_reducible refine cf.out.mono ?_
  rintro e W1 ⟨⟨A1, n1, c1, R1, rfl, -, hn1, ho1⟩, hb1⟩
  have G1 := Lib.hid hb1
  have HA1 := Lib.hid ho1.mem
  clear hb1 ho1 cf
  have ca := Lib.hid (Print_any (c := c1) (hg0.out.gr G1.out) (by omega) HA1.out)
  go_wp2_with fail
  with_reducible refine ca.out.mono ?_
  rintro e W2 ⟨⟨T1, E1, rfl, hP1⟩, hb2⟩
  have G2 := Lib.hid (G1.out.trans hb2)
  have HA2 := Lib.hid (HA1.out.gr hb2)
  have HPR := Lib.hid hP1
  clear hb2 ca hP1 HA1 G1
  go_wp2_with fail
  go_loopw [16] (fun i wr => ∃ (k : Nat), k ≤ n1 ∧ i = .int .i64 (k : Int) ∧ Hid (Gr W2 wr)) (fun i _ => n1 - (intOf i).toNat)
  case atStart => exact ⟨0, Nat.zero_le _, rfl, Lib.hid (Gr.refl _)⟩
  case round =>
    obtain ⟨k, hk, rfl, HG⟩ := hrel
    by_cases hlt : k < n1
    · obtain ⟨b, off, x, rfl, hbl, hx, hxo, k0⟩ := (HA2.out.gr HG.out).at_ hlt
      have hxn : x.n ≤ 9223372036854775807 := hxo.lt
      obtain ⟨Y, hY⟩ : ∃ Y, tidyB x.l = Y := ⟨_, rfl⟩
      have ct := Lib.hid (Tidy_is (c := x.c) hY hxn wr hxo.1)
      have crt := fun W (g : Gr wr W) => Lib.hid (rTidy_is (c := x.c) hY hxn W (hxo.1.gr g))
      have i0 : (0 : Int) ≤ (k : Int) := by omega
      have i1 : (k : Int) < (n1 : Int) := by omega
      clear hx hxo hY
      go_wp2_with fail
      with_reducible refine ct.out.mono ?_
      rintro e X1 ⟨rfl, hx1⟩
      have SG1 := Lib.hid (HG.out.trans hx1)
      have c7 := Lib.hid (crt _ hx1)
      clear ct crt hx1
      go_wp2_with fail
      with_reducible refine c7.out.out.mono ?_
      rintro e X2 ⟨rfl, hx2⟩
      have SG2 := Lib.hid (SG1.out.trans hx2)
      clear hx2 c7 SG1
      have hYY : (Y != Y) = false := by simp
      go_wp2_with fail
      go_roundw
      case rel => exact ⟨k + 1, by omega, by go_num, SG2⟩
      case measure => simp [intOf]; omega
    · obtain rfl : k = n1 := by omega
      have hk9 : k ≤ 9223372036854775807 := by omega
      obtain ⟨B1, hB1⟩ : ∃ B1, rightB (pl R1) = B1 := ⟨_, rfl⟩
      have cR := Lib.hid (Right_is (c := c1) hB1 hk9 wr (HA2.out.gr HG.out))
      have crR := fun W (g : Gr wr W) => Lib.hid (rRight_is (c := c1) hB1 hk9 W ((HA2.out.gr HG.out).gr g))
      have hBB : (B1 != B1) = false := by simp
      go_wp2_with fail
      with_reducible refine cR.out.mono ?_
      rintro e X1 ⟨rfl, hx1⟩
      have S1 := Lib.hid hx1
      clear hx1 cR
      go_wp2_with fail
      with_reducible refine (crR _ S1.out).out.mono ?_
      rintro e X2 ⟨rfl, hx2⟩
      have S2 := Lib.hid (S1.out.trans hx2)
      clear hx2 S1
      go_wp2_with fail
      with_reducible refine (cal _ (G2.out.trans (HG.out.trans S2.out))).out.mono ?_
      rintro e X3 ⟨rfl, hx3⟩
      have S3 := Lib.hid (S2.out.trans hx3)
      clear hx3 S2
      go_wp2_with fail
      with_reducible refine (crR _ S3.out).out.mono ?_
      rintro e X4 ⟨rfl, hx4⟩
      have S4 := Lib.hid (S3.out.trans hx4)
      clear hx4 S3
      rcases HPR.out with ⟨hB2, rfl, rfl⟩ | ⟨hB2, rfl, rfl⟩
      · obtain rfl : B1 = false := hB1.symm.trans hB2
        clear hB1 hB2 HPR
        go_wp2_with fail
        go_ret
        exact ⟨rfl, G2.out.trans (HG.out.trans S4.out)⟩
      · obtain rfl : B1 = true := hB1.symm.trans hB2
        have cp := Lib.hid (rPrint_is (c := c1) hB2 ((HA2.out.gr HG.out).gr S4.out))
        have hTT : ((bs (textS (pl R1))).toList == (bs (textS (pl R1))).toList) = true := beq_self_eq_true _
        clear hB1 hB2 HPR
        generalize bs (textS (pl R1)) = TT at *
        go_wp2_with fail
        with_reducible refine cp.out.mono ?_
        rintro e X5 ⟨rfl, hx5⟩
        have S5 := Lib.hid (S4.out.trans hx5)
        clear hx5 cp
        go_wp2_with fail
        go_ret
        exact ⟨rfl, G2.out.trans (HG.out.trans S5.out)⟩
end P12
end Go.Proofs.YtocojdiapaeajaaDoor
