/-
  Proved: deadboltlaw01.WordRound returns true at every input (added words hang neither on order nor on wrapping ahead). No condition.
-/
import Derived.Test.YtacfognkoafnjaaWordMath
namespace Go.Proofs.Ytacfognkoafnjaa
open Go.ChangeShapes Go.WideShapes Go.ChangeAt Go.RowKit
set_option linter.unusedVariables false

set_option maxHeartbeats 1000000 in
set_option maxRecDepth 100000 in
theorem WordRound_walk (k a b c : Int) (hk : -9223372036854775808 ≤ k ∧ k ≤ 9223372036854775807) (ha : -9223372036854775808 ≤ a ∧ a ≤ 9223372036854775807) (hb : -9223372036854775808 ≤ b ∧ b ≤ 9223372036854775807) (hc : -9223372036854775808 ≤ c ∧ c ≤ 9223372036854775807) (w : World) :
    Calls Try.prog 4 #[.int .i64 k, .int .i64 a, .int .i64 b, .int .i64 c] w fun e w' => e = .returned (.bool true) ∧ Gr w w' := by
  go_enter Try.func4, Try.ntmps4
  go_wp2_with fail
  have hK := mod3' k
  generalize (wrap64 (k.tmod 3 + 3)).tmod 3 = K at *
  obtain ⟨AB, hAB⟩ : ∃ x, wd K (wrap64 (a + b)) = x := ⟨_, rfl⟩
  obtain ⟨BC, hBC⟩ : ∃ x, wd K (wrap64 (b + c)) = x := ⟨_, rfl⟩
  obtain ⟨X, hX⟩ : ∃ x, wd K (wrap64 (AB + c)) = x := ⟨_, rfl⟩
  obtain ⟨WA, hWA⟩ : ∃ x, wd K a = x := ⟨_, rfl⟩
  have hX2 : wd K (wrap64 (a + BC)) = X := by rw [← hX, ← hAB, ← hBC, wd_assoc]
  have hWA2 : wd K WA = WA := by rw [← hWA, wd_idem]
  have hZ : wd K (wrap64 (WA + b)) = AB := by rw [← hWA, wd_left, hAB]
  have hN : wd K (wrap64 (a + wrap64 (-a))) = 0 := wd_none K a
  have hS : wd K (wrap64 (a + 0)) = WA := by rw [← hWA, Int.add_zero, IntWalk.wrap64_in a ha]
  have bWA : -9223372036854775808 ≤ WA ∧ WA ≤ 9223372036854775807 := hWA ▸ wd_b K a ha
  have bX : -9223372036854775808 ≤ X ∧ X ≤ 9223372036854775807 := hX ▸ wd_b K _ (wrap64_b _)
  have fWA : fitB K WA = true := hWA ▸ wd_fits K a hK
  have fX : fitB K X = true := hX ▸ wd_fits K _ hK
  have c1 := fun w => Lib.hid (Add_is hAB hK w)
  have c2 := fun w => Lib.hid (Add_is ((wd_comm K b a).trans hAB) hK w)
  have c3 := fun w => Lib.hid (Add_is hX hK w)
  have c4 := fun w => Lib.hid (Add_is hBC hK w)
  have c5 := fun w => Lib.hid (Add_is hX2 hK w)
  have c6 := fun w => Lib.hid (Wrap_is hWA hK ha w)
  have c7 := fun w => Lib.hid (Wrap_is hWA2 hK bWA w)
  have c8 := fun w => Lib.hid (Add_is hZ hK w)
  have c9 := fun w => Lib.hid (Add_is hN hK w)
  have c10 := fun w => Lib.hid (Add_is hS hK w)
  have c11 := fun w => Lib.hid (Fits_is fWA bWA w)
  have c12 := fun w => Lib.hid (Fits_is fX bX w)
  clear hAB hBC hX hWA hX2 hWA2 hZ hN hS fWA fX
  refine (c1 _).out.mono ?_
  rintro e w1 ⟨rfl, hb1⟩
  clear c1
  go_wp2_with fail
  refine (c2 _).out.mono ?_
  rintro e w2 ⟨rfl, hb2⟩
  clear c2
  go_wp2_with fail
  refine (c3 _).out.mono ?_
  rintro e w3 ⟨rfl, hb3⟩
  clear c3
  go_wp2_with fail
  refine (c4 _).out.mono ?_
  rintro e w4 ⟨rfl, hb4⟩
  clear c4
  go_wp2_with fail
  refine (c5 _).out.mono ?_
  rintro e w5 ⟨rfl, hb5⟩
  clear c5
  go_wp2_with fail
  refine (c6 _).out.mono ?_
  rintro e w6 ⟨rfl, hb6⟩
  clear c6
  go_wp2_with fail
  refine (c7 _).out.mono ?_
  rintro e w7 ⟨rfl, hb7⟩
  clear c7
  go_wp2_with fail
  refine (c8 _).out.mono ?_
  rintro e w8 ⟨rfl, hb8⟩
  clear c8
  go_wp2_with fail
  refine (c9 _).out.mono ?_
  rintro e w9 ⟨rfl, hb9⟩
  clear c9
  go_wp2_with fail
  refine (c10 _).out.mono ?_
  rintro e w10 ⟨rfl, hb10⟩
  clear c10
  go_wp2_with fail
  refine (alive1_ok _).mono ?_
  rintro e w11 ⟨rfl, hb11⟩
  go_wp2_with fail
  refine (c11 _).out.mono ?_
  rintro e w12 ⟨rfl, hb12⟩
  go_wp2_with fail
  refine (c12 _).out.mono ?_
  rintro e w13 ⟨rfl, hb13⟩
  go_wp2_with fail
  go_ret
  exact ⟨rfl, hb1.trans (hb2.trans (hb3.trans (hb4.trans (hb5.trans (hb6.trans (hb7.trans (hb8.trans (hb9.trans (hb10.trans (hb11.trans (hb12.trans hb13)))))))))))⟩

set_option maxRecDepth 100000 in
theorem WordRound_lifted (os : Os) (started : os.Started) (H : Type) (enc : TypeId × Value → H) :
    ReturnsInHanded {} Try.checked os 4 .any (Rows.wordRoundSpec.pre6 enc Try.prog Try.f4 Rows.wordRoundRow.domain false) (Rows.wordRoundSpec.post enc Try.prog Try.f4 false true false false) := by
  refine returnsInHanded_of_change (C := Try.checked) own started (by kernel_rfl) Try.func4
    (ChangeSpec.witness6 (enc := enc) (C := Try.checked) false ⟨#[], #[.int .i64 0, .int .i64 0, .int .i64 0, .int .i64 0], []⟩ 8 (by kernel_rfl) (by kernel_rfl) (by kernel_rfl) (by kernel_rfl)) ?_
  intro W base args ds gs before hval0 hW hcnd _
  have hval : ∀ (j : Nat) t v, Try.f4.params[j]? = some t → args[j]? = some v → Value.okWide Try.prog W .any base t v := hval0
  have hW' := hW
  obtain ⟨p, q, hA0, hV, rfl, hfz, hnd⟩ := hW
  have hA : DataW.TrodAll enc Try.prog W 0 (fun _ => true) true Try.f4.params.toList args.toList ds p := hA0
  rw [Try.params4] at hA hval
  obtain ⟨v0, vs0, d0, ds0, p0, q0, hargs, rfl, rfl, h0, r0⟩ := trodAll_cons hA
  obtain ⟨v1, vs1, d1, ds1, p1, q1, rfl, rfl, rfl, h1, r1⟩ := trodAll_cons r0
  obtain ⟨v2, vs2, d2, ds2, p2, q2, rfl, rfl, rfl, h2, r2⟩ := trodAll_cons r1
  obtain ⟨v3, vs3, d3, ds3, p3, q3, rfl, rfl, rfl, h3, r3⟩ := trodAll_cons r2
  obtain ⟨rfl, rfl, rfl⟩ := trodAll_nil r3
  obtain rfl : args = #[v0, v1, v2, v3] := by cases args; simp_all
  obtain ⟨rfl, rfl⟩ := trodVars_none hV
  obtain ⟨a0, rfl, rfl, rfl, w0⟩ := open_int Try.underlying3 (hval 0 3 v0 rfl rfl) h0
  obtain ⟨a1, rfl, rfl, rfl, w1⟩ := open_int Try.underlying3 (hval 1 3 v1 rfl rfl) h1
  obtain ⟨a2, rfl, rfl, rfl, w2⟩ := open_int Try.underlying3 (hval 2 3 v2 rfl rfl) h2
  obtain ⟨a3, rfl, rfl, rfl, w3⟩ := open_int Try.underlying3 (hval 3 3 v3 rfl rfl) h3
  clear hA0 hval0
  simp only [List.append_nil] at hW'
  refine (WordRound_walk a0 a1 a2 a3 (wfb w0) (wfb w1) (wfb w2) (wfb w3) W).mono fun e W' ⟨he, hg⟩ => ?_
  subst he
  exact ⟨_, rfl, post_below (pa := []) (pv := []) hW' (fun _ _ _ => (trodAll_cons_mk (shut_bool Try.underlying4 _) trodAll_mk0)) (fun sp _ => (trodAll_cons_mk (shut_int Try.underlying3 w0) (trodAll_cons_mk (shut_int Try.underlying3 w1) (trodAll_cons_mk (shut_int Try.underlying3 w2) (trodAll_cons_mk (shut_int Try.underlying3 w3) trodAll_mk0))))) (fun _ _ => rfl) rfl
    hg (ok_one (by kernel_rfl) rfl (okWide_bool_mk Try.underlying4 _))⟩

theorem WordRound_over : Rows.wordRoundRow.holds Try.pinned (OpenSpec.ofChange Rows.wordRoundSpec) :=
  OpenClaim.holds_of_wide 4 Try.f4 rfl rfl rfl rfl rfl rfl rfl ⟨rfl, rfl, rfl, rfl, rfl⟩ rfl rfl rfl rfl rfl (by kernel_rfl) Try.func4 (by kernel_rfl)
    (of_decide_eq_true (by kernel_rfl)) (by unfold Func.isWrapper; first | (rw [if_pos (by decide +kernel)]; kernel_rfl) | (rw [if_neg (by decide +kernel)]; exact ⟨rfl, rfl⟩))
    (fun os started H enc _ => WordRound_lifted os started H enc)

/-- The statement. -/
theorem WordRound_holds : Rows.WordRoundSaid :=
  WordRound_over
#print axioms WordRound_holds
end Go.Proofs.Ytacfognkoafnjaa
