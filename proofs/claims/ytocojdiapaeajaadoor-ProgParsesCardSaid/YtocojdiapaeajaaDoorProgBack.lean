/-
  deadboltlaw12.ProgBack: the walk of the law.
-/
import Derived.Test.YtocojdiapaeajaaDoorProgPrint
import Derived.Test.YtocojdiapaeajaaDoorProgAlive
import Derived.Test.YtocojdiapaeajaaDoorProgRefB
import Derived.Deep.DeepCutAuto
namespace Go.Proofs.YtocojdiapaeajaaDoor
open Go.ChangeShapes Go.WideShapes Go.ChangeAt Go.RowKit
set_option linter.unusedVariables false
set_option linter.unusedSimpArgs false
set_option maxRecDepth 100000
namespace P12

theorem fewP_len (l : List (List Ac)) : (fewP l).length ≤ 10 := by
  unfold fewP
  rw [List.length_map, List.length_take]
  omega
/-- A text cut to so many bytes. -/
theorem cut_text (s : ByteArray) (k : Nat) : ∃ (M : Nat) (t : Bs), (if (k : Int) < (s.size : Int) then (k : Int) else (s.size : Int)) = (M : Int) ∧ M ≤ s.size ∧ s.extract 0 M = bs t ∧ t.length ≤ k := by
  have hs : s = bs s.data.toList := (bs_mk s).symm
  have hz : s.size = s.data.toList.length := by conv => lhs; rw [hs, bs_size]
  by_cases h : k < s.size
  · refine ⟨k, s.data.toList.take k, by rw [if_pos (by omega)], by omega, ?_, by rw [List.length_take]; omega⟩
    conv => lhs; rw [hs]
    rw [bs_cut]
    rfl
  · refine ⟨s.size, s.data.toList.take s.size, by rw [if_neg (by omega)], by omega, ?_, by rw [List.length_take]; omega⟩
    conv => lhs; arg 1; rw [hs]
    rw [bs_cut]
    rfl
theorem prs_two {P : List (List Ac)} (hR : rightB P = true) : (2000 < (textS P).length ∧ prs (textS P) = (2, 0, [])) ∨ (¬ 2000 < (textS P).length ∧ prs (textS P) = (0, 0, P)) := by
  by_cases h : 2000 < (textS P).length
  · exact .inl ⟨h, prs_long h⟩
  · exact .inr ⟨h, prs_textS hR (by omega)⟩

/-- What Print answers, whatever the programs are. -/
def PrR (l : List (List Ac)) (T : ByteArray) (E : Int) : Prop := (rightB l = false ∧ T = ⟨#[]⟩ ∧ E = 1) ∨ (rightB l = true ∧ T = bs (textS l) ∧ E = 0)
theorem Print_any {w : World} {A : Option Addr} {n c : Nat} {R : List PV} (hg : Glob w) (hn : n ≤ 9223372036854775807) (hm : PMem w A n R) :
    Calls Tryd.prog 13 #[.slice A n c] w fun e w' => (∃ T E, e = .returned (.tuple #[.string T, .int .i64 E]) ∧ PrR (pl R) T E) ∧ Gr w w' := by
  cases hB : rightB (pl R)
  · exact (Print_no hB hn hm).mono fun e w' ⟨h1, h2⟩ => ⟨⟨_, _, h1, .inl ⟨hB, rfl, rfl⟩⟩, h2⟩
  · exact (Print_ok hg hB hm).mono fun e w' ⟨h1, h2⟩ => ⟨⟨_, _, h1, .inr ⟨hB, rfl, rfl⟩⟩, h2⟩
theorem pmem_len {w : World} {A : Option Addr} {n : Nat} {R : List PV} (h : PMem w A n R) : (pl R).length = n := by unfold pl; rw [List.length_map, h.len]
theorem text_short {l : List (List Ac)} (h : rightB l = true) : (textS l).length ≤ 9223372036854775807 := by
  have h1 := textS_len l (right_iff.1 h).2
  have h2 := (right_iff.1 h).1
  omega

set_option maxHeartbeats 8000000 in
theorem ProgBack_walk {w : World} (hg : Glob w) {A : Option Addr} {n c : Nat} {R : List PV} (hc : n ≤ c) (hn : n ≤ 9223372036854775807) (hm : PMem w A n R) (S : ByteArray) (hS : S.size ≤ maxLen) :
    Calls Tryd.prog 5 #[.slice A n c, .string S] w fun e w' => e = .returned (.bool true) ∧ Gr w w' := by
  have cf := Lib.hid (few_is (w := w.drew) (hm.gr (Gr.refl w).dr) hc hn)
  obtain ⟨M, t, hM, hMS, hext, htl⟩ := cut_text S 2100
  have m0 : (0 : Int) ≤ (M : Int) := by omega
  have m1 : (M : Int) ≤ (S.size : Int) := by omega
  have m2 : min (S.size : Int) 2100 = (M : Int) := by rw [← hM]; omega
  have hM' : (if (2100 : Int) < (S.size : Int) then (2100 : Int) else (S.size : Int)) = (M : Int) := hM
  clear hM hm hc hS
  obtain ⟨⟨e0, k0, P⟩, hprs⟩ : ∃ x, prs t = x := ⟨_, rfl⟩
  have HP := Lib.hid hprs
  have HT := Lib.hid htl
  have hg0 := Lib.hid hg
  clear hprs htl hg
  go_enter Tryd.func5, Tryd.ntmps5
  go_upto_region 1 with fail
  go_cut [0, 1] (fun v0 v1 wx => ∃ B m d R1, v0 = .slice B m d ∧ v1 = .string (bs t) ∧ m ≤ 10 ∧ PMem wx B m R1 ∧ Gr w wx)
  case first =>
    go_region_held3 (fun _ => True) (exact trivial)
      ((go_at_call 12; (with_reducible refine cf.out.mono ?_); rintro e w1 ⟨⟨B, m, d, R1, rfl, hR1, hm10, hown⟩, hb1⟩))
    all_goals (go_wp2_with fail; go_meet)
    all_goals exact ⟨B, m, d, R1, rfl, rfl, hm10, hown.mem, (Gr.refl w).dr.trans hb1⟩
  case rest =>
    obtain ⟨B, m, d, R1, rfl, rfl, hm10, hM1, hG1⟩ := hcut
    obtain ⟨W1, rfl⟩ : ∃ V, V = wc := ⟨_, rfl⟩
    clear cf hM' m0 m1 m2 hext hMS
    have cp := fun W (g : Gr w W) => Lib.hid (Parse_is (t := t) (by have := HT.out; omega) (hg0.out.gr g) HP.out)
    have G1 := Lib.hid hG1
    have HM := Lib.hid hM1
    have hm9 : m ≤ 9223372036854775807 := by omega
    have ca := Lib.hid (Print_any (c := d) (hg0.out.gr hG1) hm9 hM1)
    clear hG1 hM1
    go_wp2_with fail
    with_reducible refine ca.out.mono ?_
    rintro e W2 ⟨⟨T1, E1, rfl, hPR⟩, hb2⟩
    have HPR := Lib.hid hPR
    have G2 := Lib.hid (G1.out.trans hb2)
    have HM2 := Lib.hid (HM.out.gr hb2)
    clear ca hPR hb2 HM G1
    go_upto_if 31 with fail
    go_cut [] (fun wx => Gr w wx)
    case first =>
      rcases HPR.out with ⟨_, rfl, rfl⟩ | ⟨hB1, rfl, rfl⟩
      · go_wp2_with fail
        go_meet
        exact G2.out
      · have hz := bs_size (textS (pl R1))
        have c2 := fun e1 k1 P1 (h : prs (textS (pl R1)) = (e1, k1, P1)) => Parse_is (t := textS (pl R1)) (text_short hB1) (hg0.out.gr G2.out) h
        rcases prs_two hB1 with ⟨h20, hp⟩ | ⟨h20, hp⟩
        · have c3 := Lib.hid (c2 _ _ _ hp)
          have z1 : (2000 : Int) < ((bs (textS (pl R1))).size : Int) := by omega
          clear hp h20 c2 hz
          generalize bs (textS (pl R1)) = T1 at *
          go_wp2_with fail
          with_reducible refine c3.out.mono ?_
          rintro e W5 ⟨⟨A3, n3, c3', rfl, hL3⟩, hb5⟩
          obtain rfl : n3 = 0 := hL3.len.symm
          clear c3
          go_wp2_with fail
          go_meet
          exact G2.out.trans hb5
        · have c3 := Lib.hid (c2 _ _ _ hp)
          have z1 : ¬ (2000 : Int) < ((bs (textS (pl R1))).size : Int) := by omega
          clear hp h20 c2 hz
          generalize bs (textS (pl R1)) = T1 at *
          go_wp2_with fail
          with_reducible refine c3.out.mono ?_
          rintro e W3 ⟨⟨A3, n3, c3', rfl, R3, hR3, hO3⟩, hb3⟩
          have G3 := Lib.hid (G2.out.trans hb3)
          have hn3 : n3 ≤ 9223372036854775807 := by
            have h1 := pmem_len hO3.mem
            have h2 := pmem_len HM2.out
            rw [hR3] at h1
            omega
          have c4 := Lib.hid (rSame_is (c := c3') (d := d) (v := true) (by rw [hR3]; exact beq_self_eq_true _) hn3 hm9 W3 hO3.mem (HM2.out.gr hb3))
          clear hb3 c3 hO3
          go_wp2_with fail
          with_reducible refine c4.out.mono ?_
          rintro e W5 ⟨rfl, q5, hq5⟩
          have G5 := Lib.hid (G3.out.trans (show Gr W3 W5 from by rw [hq5]; exact (Gr.refl W3).drN q5))
          clear hq5 c4
          go_wp2_with fail
          go_meet
          exact G5.out
    case rest =>
      have G5 := Lib.hid hcut
      obtain ⟨W5, rfl⟩ : ∃ V, V = wc := ⟨_, rfl⟩
      clear hcut HPR G2 HM2
      have cal := fun W (g : Gr w W) => Lib.hid (alive_is (hg0.out.gr g))
      go_wp2_with fail
      with_reducible refine (cp _ G5.out).out.mono ?_
      rintro e W6 ⟨⟨A6, n6, c6, rfl, hL6⟩, hb6⟩
      have G6 := Lib.hid (G5.out.trans hb6)
      clear hb6 G5 cp
      by_cases he : e0 = 0
      · have hrt := prs_right (t := t) (by rw [HP.out]; exact he)
        rw [HP.out] at hrt
        subst he
        obtain ⟨R6, hR6, hO6⟩ := hL6
        have hM6 := hO6.mem
        have hB6 : rightB (pl R6) = true := by rw [hR6]; exact hrt.1
        have hn6 : n6 ≤ 9223372036854775807 := by
          have h1 := pmem_len hM6
          have h2 := (right_iff.1 hB6).1
          omega
        have cpr := Lib.hid (Print_ok (c := c6) (hg0.out.gr G6.out) hB6 hM6)
        have HM6 := Lib.hid hM6
        have HB6 := Lib.hid hB6
        clear hO6 hM6 hR6 hrt hB6
        go_wp2_with fail
        with_reducible refine cpr.out.mono ?_
        rintro e W7 ⟨rfl, hb7⟩
        have G7 := Lib.hid (G6.out.trans hb7)
        have HM7 := Lib.hid (HM6.out.gr hb7)
        clear hb7 cpr HM6 G6
        have hz := bs_size (textS (pl R6))
        have c8 := fun e1 k1 P1 (h : prs (textS (pl R6)) = (e1, k1, P1)) => Parse_is (t := textS (pl R6)) (text_short HB6.out) (hg0.out.gr G7.out) h
        have cR := fun W (g : Gr W7 W) => Lib.hid (Right_is (c := c6) HB6.out hn6 W (HM7.out.gr g))
        rcases prs_two HB6.out with ⟨h20, hp⟩ | ⟨h20, hp⟩
        · have c9 := Lib.hid (c8 _ _ _ hp)
          have z1 : (2000 : Int) < ((bs (textS (pl R6))).size : Int) := by omega
          clear hp h20 c8 hz
          generalize bs (textS (pl R6)) = T6 at *
          go_wp2_with fail
          with_reducible refine c9.out.mono ?_
          rintro e W8 ⟨⟨A8, n8, d8, rfl, hL8⟩, hb8⟩
          have S8 := Lib.hid hb8
          clear hL8 hb8 c9
          go_wp2_with fail
          with_reducible refine (cal _ (G7.out.trans S8.out)).out.mono ?_
          rintro e W9 ⟨rfl, hb9⟩
          have S9 := Lib.hid (S8.out.trans hb9)
          clear hb9 S8
          go_wp2_with fail
          with_reducible refine (cR _ S9.out).out.mono ?_
          rintro e WA ⟨rfl, hbA⟩
          have SA := Lib.hid (S9.out.trans hbA)
          clear hbA S9
          go_wp2_with fail
          go_ret
          exact ⟨rfl, G7.out.trans SA.out⟩
        · have c9 := Lib.hid (c8 _ _ _ hp)
          have z1 : ¬ (2000 : Int) < ((bs (textS (pl R6))).size : Int) := by omega
          clear hp h20 c8 hz
          generalize bs (textS (pl R6)) = T6 at *
          go_wp2_with fail
          with_reducible refine c9.out.mono ?_
          rintro e W8 ⟨⟨A8, n8, d8, rfl, R8, hR8, hO8⟩, hb8⟩
          have S8 := Lib.hid hb8
          have hM8 := hO8.mem
          have hn8 : n8 ≤ 9223372036854775807 := by
            have h1 := pmem_len hM8
            have h2 := pmem_len HM7.out
            rw [hR8] at h1
            omega
          have cS := fun W (g7 : Gr W7 W) (g : Gr W8 W) => Lib.hid (rSame_is (c := c6) (d := d8) (v := true) (by rw [hR8]; exact beq_self_eq_true _) hn6 hn8 W (HM7.out.gr g7) (hM8.gr g))
          clear hO8 hb8 c9 hM8
          go_wp2_with fail
          with_reducible refine (cal _ (G7.out.trans S8.out)).out.mono ?_
          rintro e W9 ⟨rfl, hb9⟩
          have S9 := Lib.hid (S8.out.trans hb9)
          have Z9 := Lib.hid hb9
          clear hb9 S8
          go_wp2_with fail
          with_reducible refine (cR _ S9.out).out.mono ?_
          rintro e WA ⟨rfl, hbA⟩
          have SA := Lib.hid (S9.out.trans hbA)
          have ZA := Lib.hid (Z9.out.trans hbA)
          clear hbA S9 Z9
          go_wp2_with fail
          with_reducible refine (cS _ SA.out ZA.out).out.mono ?_
          rintro e WB ⟨rfl, qB, hqB⟩
          have SB := Lib.hid (SA.out.trans (show Gr WA WB from by rw [hqB]; exact (Gr.refl WA).drN qB))
          clear hqB SA ZA
          go_wp2_with fail
          go_ret
          exact ⟨rfl, G7.out.trans SB.out⟩
      · have hno := prs_bad (t := t) (by rw [HP.out]; exact he)
        rw [HP.out] at hno
        obtain rfl : n6 = 0 := by
          have := hL6.len
          have h0 : P = [] := hno
          rw [h0] at this
          exact this.symm
        have hne : (e0 != 0) = true := by simpa using he
        clear hL6 hno he
        go_wp2_with fail
        with_reducible refine (cal _ G6.out).out.mono ?_
        rintro e W7 ⟨rfl, hb7⟩
        have G7 := Lib.hid (G6.out.trans hb7)
        clear hb7
        go_wp2_with fail
        go_ret
        exact ⟨rfl, G7.out⟩
end P12
end Go.Proofs.YtocojdiapaeajaaDoor
