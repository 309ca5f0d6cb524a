/-
  The law SemaApart: for every slice of spots, any three numbers and any bool, the law's function returns true, and its arguments read behind the call as they read before. No condition.
-/
import Derived.Test.YtmkkeknimpjfoaaSemaAny
import Derived.Test.YtmkkeknimpjfoaaEnds
import Derived.Deep.RegionWith
import Derived.Deep.DeepCutAuto
namespace Go.Proofs.Ytmkkeknimpjfoaa
open Go.ChangeShapes Go.WideShapes Go.ChangeAt Go.RowKit
set_option linter.unusedVariables false
set_option linter.unusedSimpArgs false

set_option maxRecDepth 100000 in
set_option maxHeartbeats 8000000 in
theorem SemaApart_walk (w : World) (A0 : Option Addr) (n0 c0 : Nat) (L0 : List SV) (hc : n0 ≤ c0) (hn : n0 ≤ 9223372036854775807) (hm0 : SMem w A0 n0 L0) (addr : Int) (hadr : B64 addr) (oth : Int) (hoth : B64 oth) (who : Int) (hwho : B64 who) (first : Bool) :
    Calls Try.prog 5 #[.slice A0 n0 c0, .int .i64 addr, .int .i64 oth, .int .i64 who, .bool first] w fun e w' => e = .returned (.bool true) ∧ Gr w w' := by
  have CF := Lib.hid (few_is (c := c0) hm0 hc hn)
  have hl70 := fewL_len L0
  obtain ⟨L, hL⟩ : ∃ L, fewL L0 = L := ⟨_, rfl⟩
  rw [hL] at CF hl70
  clear hL hm0 hc hn
  obtain ⟨N, hN⟩ : ∃ N, L.length = N := ⟨_, rfl⟩
  rw [hN] at CF hl70
  have CAL := Lib.hid alive_ok
  have HAD := Lib.hid hadr
  have HOT := Lib.hid hoth
  have HWH := Lib.hid hwho
  clear hN hadr hoth hwho
  go_enter Try.func5, Try.ntmps5
  go_wp2_with fail
  with_reducible refine CF.out.mono ?_
  rintro ee w1 ⟨B, m, rfl, hM, hle, hmx, h1⟩
  have CR := Lib.hid (Release_any hM hle hmx HAD.out)
  have HM := Lib.hid hM
  have HLE := Lib.hid hle
  have HMX := Lib.hid hmx
  have G1 := Lib.hid h1
  clear CF hM hle hmx h1
  go_wp2_with fail
  with_reducible refine CR.out.mono ?_
  rintro ee w2 ⟨B2, m2, N2, x, e, rfl, T, hTl, hT, hle2, hmx2, hR, h2⟩
  have HT := Lib.hid hT
  have HTL := Lib.hid hTl
  have HLE2 := Lib.hid hle2
  have HMX2 := Lib.hid hmx2
  have HR := Lib.hid hR
  have V2 := Lib.hid h2
  have G2 := Lib.hid (G1.out.trans h2)
  clear CR hT hTl hle2 hmx2 hR h2
  by_cases he : e = 0
  · subst he
    obtain ⟨_, ht, hk, hcase⟩ := HR.out.plain.resolve_left (fun h => h.1 rfl)
    have hstp : ∃ q l, Stp L addr q l T := by
      rcases hcase with ⟨r, _, _, h⟩ | ⟨_, _, _, h⟩
      · exact ⟨_, _, h⟩
      · exact ⟨_, _, h⟩
    obtain ⟨q', l', hS⟩ := hstp
    have HS := Lib.hid hS
    have HTB := Lib.hid ht
    have HKY := Lib.hid hk
    have HCA := Lib.hid hcase
    have hN2 : N2 ≤ 64 := by rw [← HTL.out]; exact hS.tab.1
    have KR := Lib.hid (rTab_is (c := m2) HT.out (by omega) (v := true) ⟨fun _ => hS.tab, fun _ => rfl⟩)
    have KG1 := Lib.hid (fun W (g : Gr w2 W) => rgot_is (c := m2) (HT.out.gr g) (by omega) HOT.out hS.tab.2)
    have KG2 := Lib.hid (fun W (g : Gr w2 W) => rgot_is (c := m) (HM.out.gr (V2.out.trans g)) (by omega) HOT.out ht.2)
    have KSP := Lib.hid (fun W (x y : SV) (hx : x.ok W) (hy : y.ok W) (h : x.pl = y.pl) => rSpots_is hx hy (v := true) ⟨fun _ => h, fun _ => rfl⟩)
    clear ht hk hcase hS
    go_upto_region 5 with fail
    go_cut [54] (fun c wx => c = .bool false ∧ Gr w2 wx)
    case first =>
      by_cases hao : addr = oth
      · have hb : (addr != oth) = false := by simp [hao]
        clear hao
        go_wp2_with fail
        go_meet
        exact ⟨rfl, Gr.refl _⟩
      · have hb : (addr == oth) = false := beq_eq_false_iff_ne.2 hao
        have hb' : (addr != oth) = true := by simp [bne, hb]
        have HO := Lib.hid (HS.out.other oth (fun e => hao e.symm))
        clear hao
        go_wp2_with fail
        with_reducible refine KR.out.mono ?_
        rintro ee w3 ⟨rfl, h3⟩
        have V3 := Lib.hid h3
        clear h3
        go_wp2_with fail
        with_reducible refine (KG1.out _ V3.out).mono ?_
        rintro ee w4 ⟨B4, m4, d4, rfl, hok4, h4⟩
        have V4 := Lib.hid (V3.out.trans h4)
        have K4 := Lib.hid hok4
        clear hok4 h4
        go_wp2_with fail
        with_reducible refine (KG2.out _ V4.out).mono ?_
        rintro ee w5 ⟨B5, m5, d5, rfl, hok5, h5⟩
        have V5 := Lib.hid (V4.out.trans h5)
        have K5 := Lib.hid hok5
        have K45 := Lib.hid (K4.out.gr h5)
        clear hok5 h5
        have KS := Lib.hid (KSP.out _ _ _ K45.out K5.out (by show (oth, _, _) = (oth, _, _); rw [HO.out]))
        go_wp2_with fail
        with_reducible refine KS.out.mono ?_
        rintro ee w6 ⟨rfl, h6⟩
        have V6 := Lib.hid (V5.out.trans h6)
        clear h6
        go_wp2_with fail
        go_meet
        exact ⟨rfl, V6.out⟩
    case rest =>
      obtain ⟨rfl, hWX⟩ := hcut
      obtain ⟨W3, rfl⟩ : ∃ W3, W3 = wc := ⟨_, rfl⟩
      have V3 := Lib.hid hWX
      have G3 := Lib.hid (G2.out.trans hWX)
      clear hWX KR KG1 KG2 KSP
      by_cases hx : x = -1
      · subst hx
        have hx0 : ((-1 : Int) == -1) = true := rfl
        have hcnt : (gt L addr).2 = [] ∧ (gt L addr).1 < 2147483647 ∧ Stp L addr ((gt L addr).1 + 1) [] T := by
          rcases HCA.out with ⟨r, _, h, _⟩ | ⟨h1, h2, _, h3⟩
          · exfalso
            have := (gt_cnt HTB.out.2 HKY.out).2.2.1
            rw [h] at this
            have := (L7.good_cons.1 this.2).1
            omega
          · exact ⟨h1, h2, h3⟩
        obtain ⟨hc1, hc2, hc3⟩ := hcnt
        have hc0 := (gt_cnt HTB.out.2 HKY.out).1
        obtain ⟨who', hw', hwb', hww⟩ : ∃ who' : Int, 0 ≤ who' ∧ B64 who' ∧ ((who < 0 ∧ who' = 0) ∨ (¬ who < 0 ∧ who' = who)) := by
          by_cases h : who < 0
          · exact ⟨0, by omega, b64_zero, .inl ⟨h, rfl⟩⟩
          · exact ⟨who, by omega, HWH.out, .inr ⟨h, rfl⟩⟩
        have CQ := Lib.hid (Acquire_any (HT.out.gr V3.out) HLE2.out HMX2.out HAD.out hwb' (first := first))
        have HW' := Lib.hid hw'
        have HC1 := Lib.hid hc1
        have HC3 := Lib.hid hc3
        have HC0 := Lib.hid hc0
        clear hc1 hc2 hc3 hc0 hwb' hw'
        rcases hww with ⟨hlt, rfl⟩ | ⟨hlt, rfl⟩
        all_goals (
          go_wp2_with fail
          with_reducible refine CQ.out.mono ?_
          rintro ee w4 ⟨B4, m4, N4, is, e4, rfl, U, hUl, hU, hle4, hmx4, hR4, h4⟩
          obtain rfl : e4 = 0 := hR4.must HC3.out.tab HKY.out HW'.out (by rw [HC3.out.got]; simp) (by rw [HC3.out.got]; exact (by decide : ([] : List Int).length < 64)) (.inl ((gt_has HC3.out.tab.2).2 (by rw [HC3.out.got]; intro e; rw [Prod.mk.injEq] at e; have := HC0.out; omega)))
          obtain ⟨_, _, _, _, _, hr4⟩ := hR4.plain.resolve_left (fun h => h.1 rfl)
          rw [HC3.out.got] at hr4
          obtain ⟨_, rfl, hS4⟩ := hr4.resolve_right (fun h => by have h1 : (gt L addr).1 + 1 = 0 := h.1; have := HC0.out; omega)
          have hsame : U.map SV.pl = L.map SV.pl := gt_ext hS4.tab.2 HTB.out.2 fun b => by
            by_cases hb : b = addr
            · rw [hb, hS4.got]
              show ((gt L addr).1 + 1 - 1, ([] : List Int)) = gt L addr
              rw [Int.add_sub_cancel, ← HC1.out]
            · rw [hS4.other b hb, HC3.out.other b hb]
          have hN4 : N4 ≤ 9223372036854775807 := by omega
          have G4 := Lib.hid (G3.out.trans h4)
          have V4 := Lib.hid ((V2.out.trans V3.out).trans h4)
          have KSM := Lib.hid (fun W (g : Gr w4 W) => rSame_is (c := m4) (d := m) (hU.gr g) (HM.out.gr (V4.out.trans g)) hN4 (v := true) ⟨fun _ => hsame, fun _ => rfl⟩)
          clear hUl hU hle4 hmx4 hR4 h4 hr4 hS4 hsame hN4
          go_wp2_with fail
          with_reducible refine (CAL.out _).mono ?_
          rintro ee w5 ⟨rfl, h5⟩
          have G5 := Lib.hid (G4.out.trans h5)
          have KSM2 := Lib.hid (KSM.out _ h5)
          clear h5
          go_wp2_with fail
          with_reducible refine KSM2.out.mono ?_
          rintro ee w6 ⟨rfl, h6⟩
          have G6 := Lib.hid (G5.out.trans h6)
          clear h6
          go_wp2_with fail
          go_ret
          exact ⟨rfl, G6.out⟩)
      · have hx1 : (x == -1) = false := beq_eq_false_iff_ne.2 hx
        have hx2 : (x != -1) = true := by simp [bne, hx1]
        obtain ⟨hq, hx0⟩ := HR.out.queued rfl hx
        have hqL := qd_le L x
        obtain ⟨u, hu⟩ : ∃ u, qd T x = u := ⟨_, rfl⟩
        rw [hu] at hq
        have CQ1 := Lib.hid (Queued_is (c := m) (HM.out.gr (V2.out.trans V3.out)) (who := x) (v := ((u + 1 : Nat) : Int)) (e := 0) (.inr ⟨hx0, HTB.out, by rw [hq], rfl⟩))
        have CQ2 := Lib.hid (fun W (g : Gr w2 W) => Queued_is (c := m2) (HT.out.gr g) (who := x) (v := (u : Int)) (e := 0) (.inr ⟨hx0, HS.out.tab, by rw [hu], rfl⟩))
        have hu70 : u ≤ 70 := by rw [hq] at hqL; have := HTB.out.1; omega
        clear hq hx0 hqL hu hx
        go_wp2_with fail
        with_reducible refine CQ1.out.mono ?_
        rintro ee w4 ⟨rfl, h4⟩
        have V4 := Lib.hid (V3.out.trans h4)
        have G4 := Lib.hid (G3.out.trans h4)
        clear h4
        go_wp2_with fail
        with_reducible refine (CQ2.out _ V4.out).mono ?_
        rintro ee w5 ⟨rfl, h5⟩
        have G5 := Lib.hid (G4.out.trans h5)
        clear h5
        go_wp2_with fail
        with_reducible refine (CAL.out _).mono ?_
        rintro ee w6 ⟨rfl, h6⟩
        have G6 := Lib.hid (G5.out.trans h6)
        clear h6
        have hdec : ((u : Int) == wrap64 (((u + 1 : Nat) : Int) - 1)) = true := by
          rw [beq_iff_eq]; unfold wrap64; omega
        go_wp2_with fail
        go_ret
        exact ⟨rfl, G6.out⟩
  · have hne : (e == 0) = false := beq_eq_false_iff_ne.2 he
    have hbn : (e != 0) = true := by simp [bne, hne]
    have hT0 : T = [] := by
      rcases HR.out.plain with ⟨_, _, h⟩ | ⟨h, _⟩
      · exact h
      · exact absurd h he
    obtain rfl : N2 = 0 := by rw [← HTL.out, hT0]; rfl
    clear he hT0
    go_wp2_with fail
    with_reducible refine (CAL.out _).mono ?_
    rintro ee w3 ⟨rfl, h3⟩
    have G3 := Lib.hid (G2.out.trans h3)
    clear h3
    go_wp2_with fail
    go_ret
    exact ⟨rfl, G3.out⟩
set_option maxRecDepth 100000 in
theorem SemaApart_lifted (os : Os) (started : os.Started) (H : Type) (enc : TypeId × Value → H) :
    ReturnsInHanded {} Try.checked os 5 .any (Rows.semaApartSpec.pre6 enc Try.prog Try.f5 Rows.semaApartRow.domain false) (Rows.semaApartSpec.post enc Try.prog Try.f5 false true false false) := by
  refine returnsInHanded_of_change (C := Try.checked) own started (by kernel_rfl) Try.func5
    (ChangeSpec.witness6 (enc := enc) (C := Try.checked) false ⟨#[], #[.slice none 0 0, .int .i64 0, .int .i64 0, .int .i64 0, .bool false], []⟩ 8 (by kernel_rfl) (by kernel_rfl) (by kernel_rfl) (by kernel_rfl)) ?_
  intro W base args ds gs before hval0 hW hcnd _
  have hval : ∀ (j : Nat) t v, Try.f5.params[j]? = some t → args[j]? = some v → Value.okWide Try.prog W .any base t v := hval0
  have hW' := hW
  obtain ⟨p, q, hA0, hV, rfl, hfz, hnd⟩ := hW
  have hA : DataW.TrodAll enc Try.prog W 0 (fun _ => true) true Try.f5.params.toList args.toList ds p := hA0
  rw [Try.params5] at hA hval
  have hK := hA
  obtain ⟨v0, vs0, d0, ds0, p0, q0, hargs, rfl, hp, h0, r0⟩ := trodAll_cons hA
  obtain ⟨v1, vs1, d1, ds1, p1, q1, rfl, rfl, rfl, h1, r1⟩ := trodAll_cons r0
  obtain ⟨v2, vs2, d2, ds2, p2, q2, rfl, rfl, rfl, h2, r2⟩ := trodAll_cons r1
  obtain ⟨v3, vs3, d3, ds3, p3, q3, rfl, rfl, rfl, h3, r3⟩ := trodAll_cons r2
  obtain ⟨v4, vs4, d4, ds4, p4, q4, rfl, rfl, rfl, h4, r4⟩ := trodAll_cons r3
  obtain ⟨rfl, rfl, rfl⟩ := trodAll_nil r4
  obtain rfl : args = #[v0, v1, v2, v3, v4] := by cases args; simp_all
  obtain ⟨rfl, rfl⟩ := trodVars_none hV
  obtain ⟨A0, n0, c0, l0, rfl, hc0, hn0, hm0⟩ := open_spots (hval 0 22 v0 rfl rfl) h0
  obtain ⟨a1, rfl, rfl, rfl, w1⟩ := open_int Try.underlying3 (hval 1 3 v1 rfl rfl) h1
  obtain ⟨a2, rfl, rfl, rfl, w2⟩ := open_int Try.underlying3 (hval 2 3 v2 rfl rfl) h2
  obtain ⟨a3, rfl, rfl, rfl, w3⟩ := open_int Try.underlying3 (hval 3 3 v3 rfl rfl) h3
  obtain ⟨a4, rfl, rfl, rfl⟩ := open_bool Try.underlying4 (hval 4 4 v4 rfl rfl) h4
  clear hA0 hval0
  refine (SemaApart_walk W A0 n0 c0 l0 hc0 hn0 hm0 a1 (wfb w1) a2 (wfb w2) a3 (wfb w3) a4).mono fun e W' ⟨he, hg⟩ => ?_
  subst he
  exact ⟨_, rfl, post_below (pa := p) (pv := []) hW' (fun _ _ _ => (trodAll_cons_mk (shut_bool Try.underlying4 _) trodAll_mk0))
    (fun sp hs => trodAll_stays laidOut hg sp (by kernel_rfl) hK (fun x hx => hW'.lt x (List.mem_append_left _ hx)) (fun x hx => hs x (List.mem_append_left _ hx))) (fun _ _ => rfl) rfl
    hg (ok_one (by kernel_rfl) rfl (okWide_bool_mk Try.underlying4 _))⟩

theorem SemaApart_over : Rows.semaApartRow.holds Try.pinned (OpenSpec.ofChange Rows.semaApartSpec) :=
  OpenClaim.holds_of_wide 5 Try.f5 rfl rfl rfl rfl rfl rfl rfl ⟨rfl, rfl, rfl, rfl, rfl⟩ rfl rfl rfl rfl rfl (by kernel_rfl) Try.func5 (by kernel_rfl)
    (of_decide_eq_true (by kernel_rfl)) (by unfold Func.isWrapper; first | (rw [if_pos (by decide +kernel)]; kernel_rfl) | (rw [if_neg (by decide +kernel)]; exact ⟨rfl, rfl⟩))
    (fun os started H enc _ => SemaApart_lifted os started H enc)

/-- The statement. -/
theorem SemaApart_holds : Rows.SemaApartSaid :=
  SemaApart_over
#print axioms SemaApart_holds
end Go.Proofs.Ytmkkeknimpjfoaa
