/-
  The law SemaTells: for every slice of spots, any two numbers and any bool, the law's function returns true, and its arguments read behind the call as they read before. No condition.
-/
import Derived.Test.YtmkkeknimpjfoaaSemaAny
import Derived.Test.YtmkkeknimpjfoaaEnds
import Derived.Deep.RegionWith
import Derived.Deep.DeepCutAuto
namespace Go.Proofs.Ytmkkeknimpjfoaa
open Go.ChangeShapes Go.WideShapes Go.ChangeAt Go.RowKit
set_option linter.unusedVariables false
set_option linter.unusedSimpArgs false

set_option maxRecDepth 100000 in
set_option maxHeartbeats 8000000 in
theorem SemaTells_walk (w : World) (A0 : Option Addr) (n0 c0 : Nat) (L0 : List SV) (hc : n0 ≤ c0) (hn : n0 ≤ 9223372036854775807) (hm0 : SMem w A0 n0 L0) (addr : Int) (hadr : B64 addr) (who : Int) (hwho : B64 who) (first : Bool) :
    Calls Try.prog 3 #[.slice A0 n0 c0, .int .i64 addr, .int .i64 who, .bool first] w fun e w' => e = .returned (.bool true) ∧ Gr w w' := by
  have CF := Lib.hid (few_is (c := c0) hm0 hc hn)
  have hl70 := fewL_len L0
  obtain ⟨L, hL⟩ : ∃ L, fewL L0 = L := ⟨_, rfl⟩
  rw [hL] at CF hl70
  clear hL hm0 hc hn
  obtain ⟨N, hN⟩ : ∃ N, L.length = N := ⟨_, rfl⟩
  rw [hN] at CF hl70
  have CAL := Lib.hid alive_ok
  have HAD := Lib.hid hadr
  have HWH := Lib.hid hwho
  obtain ⟨bT, hbT⟩ := yes_no (Tab L)
  obtain ⟨bM, hbM⟩ := yes_no (Tab L ∧ IsKey addr)
  have HBT := Lib.hid hbT
  have HBM := Lib.hid hbM
  obtain ⟨v, g, hq⟩ := QueR.any L who
  have HQ := Lib.hid hq
  clear hN hadr hwho hbT hbM hq
  go_enter Try.func3, Try.ntmps3
  go_wp2_with fail
  with_reducible refine CF.out.mono ?_
  rintro ee w1 ⟨B, m, rfl, hM, hle, hmx, h1⟩
  have CA := Lib.hid (Acquire_any hM hle hmx HAD.out HWH.out (first := first))
  have CR := Lib.hid (fun W (g : Gr w1 W) => Release_any (hM.gr g) hle hmx HAD.out)
  have CQ := Lib.hid (fun W (g : Gr w1 W) => Queued_is (c := m) (hM.gr g) HQ.out)
  have CT := Lib.hid (fun W (g : Gr w1 W) => rTab_is (c := m) (hM.gr g) (by omega) HBT.out)
  have CM := Lib.hid (fun W (g : Gr w1 W) => rMay_is (c := m) (hM.gr g) (by omega) HBM.out)
  have CRQ := Lib.hid (fun W (g : Gr w1 W) => rQueued_is (c := m) (hM.gr g) (by omega) who)
  have HM := Lib.hid hM
  have G1 := Lib.hid h1
  have hn6 : N ≤ 100000 := by omega
  clear CF hM hle hmx h1
  go_wp2_with fail
  with_reducible refine CA.out.mono ?_
  rintro ee w2 ⟨B2, m2, N2, is, e, rfl, T2, hT2l, hT2, hle2, hmx2, hR2, h2⟩
  have HT2 := Lib.hid hT2
  have HT2L := Lib.hid hT2l
  have HR2 := Lib.hid hR2
  have HN2 := Lib.hid (Nat.le_trans hle2 hmx2)
  have V2 := Lib.hid h2
  clear CA hT2 hT2l hle2 hmx2 hR2 h2
  go_wp2_with fail
  with_reducible refine (CR.out _ V2.out).mono ?_
  rintro ee w3 ⟨B3, m3, N3, x, f, rfl, T3, hT3l, hT3, hle3, hmx3, hR3, h3⟩
  have HT3 := Lib.hid hT3
  have HT3L := Lib.hid hT3l
  have HR3 := Lib.hid hR3
  have HN3 := Lib.hid (Nat.le_trans hle3 hmx3)
  have V3 := Lib.hid (V2.out.trans h3)
  have HT2' := Lib.hid (HT2.out.gr h3)
  clear CR hT3 hT3l hle3 hmx3 hR3 h3 HT2 V2
  go_wp2_with fail
  with_reducible refine (CQ.out _ V3.out).mono ?_
  rintro ee w4 ⟨rfl, h4⟩
  have V4 := Lib.hid (V3.out.trans h4)
  have HT2 := Lib.hid (HT2'.out.gr h4)
  have HT3' := Lib.hid (HT3.out.gr h4)
  clear CQ h4 V3 HT2' HT3
  go_wp2_with fail
  with_reducible refine (CAL.out _).mono ?_
  rintro ee w5 ⟨rfl, h5⟩
  have V5 := Lib.hid (V4.out.trans h5)
  have HT2' := Lib.hid (HT2.out.gr h5)
  have HT3 := Lib.hid (HT3'.out.gr h5)
  clear CAL h5 V4 HT2 HT3'
  go_upto_region 7 with fail
  go_cut [55] (fun c wx => c = .bool (!bT || decide (who < 0)) ∧ Gr w5 wx)
  case first =>
    clear HBT HBM HQ
    cases bT with
    | false =>
      go_wp2_with fail
      with_reducible refine (CT.out _ V5.out).mono ?_
      rintro ee w6 ⟨rfl, h6⟩
      have G6 := Lib.hid h6
      clear h6
      go_wp2_with fail
      go_meet
      exact ⟨rfl, G6.out⟩
    | true =>
      go_wp2_with fail
      with_reducible refine (CT.out _ V5.out).mono ?_
      rintro ee w6 ⟨rfl, h6⟩
      have G6 := Lib.hid h6
      clear h6
      go_wp2_with fail
      go_meet
      exact ⟨by simp, G6.out⟩
  case rest =>
    obtain ⟨rfl, hWX⟩ := hcut
    obtain ⟨w6, rfl⟩ : ∃ w6, w6 = wc := ⟨_, rfl⟩
    have V6 := Lib.hid (V5.out.trans hWX)
    have HT2 := Lib.hid (HT2'.out.gr hWX)
    have HT3' := Lib.hid (HT3.out.gr hWX)
    clear hWX V5 HT2' HT3 CT
    obtain ⟨bq, hbq⟩ : ∃ bq, (!bT || decide (who < 0)) = bq := ⟨_, rfl⟩
    rw [hbq]
    have hcase : (bq = true ∧ v = 0 ∧ g = 1) ∨ (bq = false ∧ v = (qd L who : Int) ∧ g = 0) := by
      rcases HQ.out with ⟨h, h1, h2⟩ | ⟨h0, ht, h1, h2⟩
      · refine .inl ⟨?_, h1, h2⟩
        rw [← hbq]
        rcases h with h | h
        · simp [h]
        · have : bT = false := by
            cases hb : bT
            · rfl
            · exact absurd (HBT.out.1 hb) h
          simp [this]
      · refine .inr ⟨?_, h1, h2⟩
        rw [← hbq, HBT.out.2 ht]
        have : ¬ who < 0 := by omega
        simp [this]
    clear hbq
    go_upto_if 55 with fail
    go_cut [] (fun wx => Gr w6 wx)
    case first =>
      rcases hcase with ⟨rfl, rfl, rfl⟩ | ⟨rfl, rfl, rfl⟩
      · go_wp2_with fail
        go_meet
        exact Gr.refl _
      · have hbb : ((qd L who : Int) != (qd L who : Int)) = false := by simp
        go_wp2_with fail
        with_reducible refine (CRQ.out _ V6.out).mono ?_
        rintro ee w7 ⟨rfl, h7⟩
        have G7 := Lib.hid h7
        clear h7
        go_wp2_with fail
        go_meet
        exact G7.out
    case rest =>
      obtain ⟨w7, rfl⟩ : ∃ w7, w7 = wc := ⟨_, rfl⟩
      have V7 := Lib.hid (V6.out.trans hcut)
      have HT2' := Lib.hid (HT2.out.gr hcut)
      have HT3 := Lib.hid (HT3'.out.gr hcut)
      clear hcut V6 HT2 HT3' hcase CRQ
      cases bM with
      | false =>
        have hno : ¬ (Tab L ∧ IsKey addr) := fun h => absurd (HBM.out.2 h) (by simp)
        have h2 : T2 = [] ∧ is = false ∧ e = 1 := by
          rcases HR2.out with ⟨_, h, h1, h2⟩ | ⟨h1, h2, _⟩
          · exact ⟨List.map_eq_nil_iff.1 h, h1, h2⟩
          · exact absurd ⟨h1, h2⟩ hno
        have h3 : T3 = [] ∧ x = 0 ∧ f = 1 := by
          rcases HR3.out with ⟨_, h, h1, h2⟩ | ⟨h1, h2, _⟩
          · exact ⟨List.map_eq_nil_iff.1 h, h1, h2⟩
          · exact absurd ⟨h1, h2⟩ hno
        obtain ⟨rfl, rfl, rfl⟩ := h2
        obtain ⟨rfl, rfl, rfl⟩ := h3
        obtain rfl : 0 = N2 := HT2L.out
        obtain rfl : 0 = N3 := HT3L.out
        clear hno
        go_wp2_with fail
        with_reducible refine (CM.out _ V7.out).mono ?_
        rintro ee w8 ⟨rfl, h8⟩
        have V8 := Lib.hid (V7.out.trans h8)
        clear h8
        go_wp2_with fail
        go_ret
        exact ⟨rfl, G1.out.trans V8.out⟩
      | true =>
        obtain ⟨ht, hk⟩ := HBM.out.1 rfl
        have HTB := Lib.hid ht
        have HKY := Lib.hid hk
        have CRR := Lib.hid (fun W (g : Gr w1 W) => rRel_is (c := m) (HM.out.gr g) hn6 ht hk HAD.out HR3.out)
        clear ht hk
        go_wp2_with fail
        with_reducible refine (CM.out _ V7.out).mono ?_
        rintro ee w8 ⟨rfl, h8⟩
        have V8 := Lib.hid (V7.out.trans h8)
        have HT2 := Lib.hid (HT2'.out.gr h8)
        have HT3' := Lib.hid (HT3.out.gr h8)
        clear h8 V7 HT2' HT3 CM
        go_wp2_with fail
        with_reducible refine (CRR.out _ V8.out).mono ?_
        rintro ee w9 ⟨B9, m9, T9, rfl, hT9, hp9, h9⟩
        have V9 := Lib.hid (V8.out.trans h9)
        have HT2' := Lib.hid (HT2.out.gr h9)
        have KS := Lib.hid (rSame_is (c := m3) (d := m9) (HT3'.out.gr h9) hT9 HN3.out (v := true) ⟨fun _ => hp9.symm, fun _ => rfl⟩)
        obtain ⟨N9, hN9⟩ : ∃ N9, T9.length = N9 := ⟨_, rfl⟩
        rw [hN9] at KS ⊢
        have hff : (f != f) = false := by simp
        have hxx : (x != x) = false := by simp
        clear hT9 hp9 h9 hN9 V8 HT2 HT3' CRR
        simp only [Array.append_assoc, List.append_toArray, List.cons_append, List.nil_append]
        go_wp2_with fail
        with_reducible refine KS.out.mono ?_
        rintro ee w10 ⟨rfl, h10⟩
        have V10 := Lib.hid (V9.out.trans h10)
        have HT2 := Lib.hid (HT2'.out.gr h10)
        clear h10 V9 HT2' KS
        by_cases hw : who < 0
        · have h2 : T2 = [] ∧ is = false ∧ e = 1 := by
            rcases HR2.out with ⟨_, h, h1, h2⟩ | ⟨_, _, h0, _⟩
            · exact ⟨List.map_eq_nil_iff.1 h, h1, h2⟩
            · omega
          obtain ⟨rfl, rfl, rfl⟩ := h2
          obtain rfl : 0 = N2 := HT2L.out
          go_wp2_with fail
          go_ret
          exact ⟨rfl, G1.out.trans V10.out⟩
        · have CRA := Lib.hid (rAcq_is (c := m) (HM.out.gr V10.out) hn6 HTB.out HKY.out HAD.out (by omega) HWH.out HR2.out)
          have hee : (e == e) = true := by simp
          have hii : (is == is) = true := by simp
          go_wp2_with fail
          with_reducible refine CRA.out.mono ?_
          rintro ee w11 ⟨B11, m11, T11, rfl, hT11, hp11, h11⟩
          have V11 := Lib.hid (V10.out.trans h11)
          have KS := Lib.hid (rSame_is (c := m2) (d := m11) (HT2.out.gr h11) hT11 HN2.out (v := true) ⟨fun _ => hp11.symm, fun _ => rfl⟩)
          obtain ⟨N11, hN11⟩ : ∃ N11, T11.length = N11 := ⟨_, rfl⟩
          rw [hN11] at KS ⊢
          clear hT11 hp11 h11 hN11 V10 HT2 CRA
          simp only [Array.append_assoc, List.append_toArray, List.cons_append, List.nil_append]
          go_wp2_with fail
          with_reducible refine KS.out.mono ?_
          rintro ee w12 ⟨rfl, h12⟩
          have V12 := Lib.hid (V11.out.trans h12)
          clear h12
          go_wp2_with fail
          go_ret
          exact ⟨by simp, G1.out.trans V12.out⟩
set_option maxRecDepth 100000 in
theorem SemaTells_lifted (os : Os) (started : os.Started) (H : Type) (enc : TypeId × Value → H) :
    ReturnsInHanded {} Try.checked os 3 .any (Rows.semaTellsSpec.pre6 enc Try.prog Try.f3 Rows.semaTellsRow.domain false) (Rows.semaTellsSpec.post enc Try.prog Try.f3 false true false false) := by
  refine returnsInHanded_of_change (C := Try.checked) own started (by kernel_rfl) Try.func3
    (ChangeSpec.witness6 (enc := enc) (C := Try.checked) false ⟨#[], #[.slice none 0 0, .int .i64 0, .int .i64 0, .bool false], []⟩ 8 (by kernel_rfl) (by kernel_rfl) (by kernel_rfl) (by kernel_rfl)) ?_
  intro W base args ds gs before hval0 hW hcnd _
  have hval : ∀ (j : Nat) t v, Try.f3.params[j]? = some t → args[j]? = some v → Value.okWide Try.prog W .any base t v := hval0
  have hW' := hW
  obtain ⟨p, q, hA0, hV, rfl, hfz, hnd⟩ := hW
  have hA : DataW.TrodAll enc Try.prog W 0 (fun _ => true) true Try.f3.params.toList args.toList ds p := hA0
  rw [Try.params3] at hA hval
  have hK := hA
  obtain ⟨v0, vs0, d0, ds0, p0, q0, hargs, rfl, hp, h0, r0⟩ := trodAll_cons hA
  obtain ⟨v1, vs1, d1, ds1, p1, q1, rfl, rfl, rfl, h1, r1⟩ := trodAll_cons r0
  obtain ⟨v2, vs2, d2, ds2, p2, q2, rfl, rfl, rfl, h2, r2⟩ := trodAll_cons r1
  obtain ⟨v3, vs3, d3, ds3, p3, q3, rfl, rfl, rfl, h3, r3⟩ := trodAll_cons r2
  obtain ⟨rfl, rfl, rfl⟩ := trodAll_nil r3
  obtain rfl : args = #[v0, v1, v2, v3] := by cases args; simp_all
  obtain ⟨rfl, rfl⟩ := trodVars_none hV
  obtain ⟨A0, n0, c0, l0, rfl, hc0, hn0, hm0⟩ := open_spots (hval 0 22 v0 rfl rfl) h0
  obtain ⟨a1, rfl, rfl, rfl, w1⟩ := open_int Try.underlying3 (hval 1 3 v1 rfl rfl) h1
  obtain ⟨a2, rfl, rfl, rfl, w2⟩ := open_int Try.underlying3 (hval 2 3 v2 rfl rfl) h2
  obtain ⟨a3, rfl, rfl, rfl⟩ := open_bool Try.underlying4 (hval 3 4 v3 rfl rfl) h3
  clear hA0 hval0
  refine (SemaTells_walk W A0 n0 c0 l0 hc0 hn0 hm0 a1 (wfb w1) a2 (wfb w2) a3).mono fun e W' ⟨he, hg⟩ => ?_
  subst he
  exact ⟨_, rfl, post_below (pa := p) (pv := []) hW' (fun _ _ _ => (trodAll_cons_mk (shut_bool Try.underlying4 _) trodAll_mk0))
    (fun sp hs => trodAll_stays laidOut hg sp (by kernel_rfl) hK (fun x hx => hW'.lt x (List.mem_append_left _ hx)) (fun x hx => hs x (List.mem_append_left _ hx))) (fun _ _ => rfl) rfl
    hg (ok_one (by kernel_rfl) rfl (okWide_bool_mk Try.underlying4 _))⟩

theorem SemaTells_over : Rows.semaTellsRow.holds Try.pinned (OpenSpec.ofChange Rows.semaTellsSpec) :=
  OpenClaim.holds_of_wide 3 Try.f3 rfl rfl rfl rfl rfl rfl rfl ⟨rfl, rfl, rfl, rfl, rfl⟩ rfl rfl rfl rfl rfl (by kernel_rfl) Try.func3 (by kernel_rfl)
    (of_decide_eq_true (by kernel_rfl)) (by unfold Func.isWrapper; first | (rw [if_pos (by decide +kernel)]; kernel_rfl) | (rw [if_neg (by decide +kernel)]; exact ⟨rfl, rfl⟩))
    (fun os started H enc _ => SemaTells_lifted os started H enc)

/-- The statement. -/
theorem SemaTells_holds : Rows.SemaTellsSaid :=
  SemaTells_over
#print axioms SemaTells_holds
end Go.Proofs.Ytmkkeknimpjfoaa
