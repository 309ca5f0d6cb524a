/-
  Proved: deadboltlaw04.ClockLate returns true at every input (who is late waited longer than may be; who began to wait later is late later; with as much time gone by, whoever waits as long is as late). No condition.
-/
import Derived.Test.YtkohcjcpmoallaaClockSpread
import Derived.Test.YtkohcjcpmoallaaEnds
namespace Go.Proofs.Ytkohcjcpmoallaa
open Go.ChangeShapes Go.WideShapes Go.ChangeAt Go.RowKit
set_option linter.unusedVariables false

set_option maxHeartbeats 4000000 in
set_option maxRecDepth 100000 in
theorem late_run (w : World) (a b d A B D r x y : Int) (p q : Bool) (hA : wrap64 ((IntKind.u64.wrap a).tmod 1152921504606846976) = A) (hB : wrap64 ((IntKind.u64.wrap b).tmod 1152921504606846976) = B) (hD : wrap64 ((IntKind.u64.wrap d).tmod 1152921504606846976) = D)
    (bA : 0 ≤ A ∧ A < 1152921504606846976) (bB : 0 ≤ B ∧ B < 1152921504606846976) (bD : 0 ≤ D ∧ D < 1152921504606846976) (hx : B + D = x) (hy : A + D = y)
    (k1 : ∀ w, Calls Try.prog 8 #[.int .i64 A, .int .i64 B] w fun e w' => e = .returned (.tuple #[.bool p, .int .i64 0]) ∧ Gr w w')
    (k2 : ∀ w, Calls Try.prog 7 #[.int .i64 A, .int .i64 B] w fun e w' => e = .returned (.tuple #[.int .i64 r, .int .i64 0]) ∧ Gr w w')
    (k3 : ∀ w, Calls Try.prog 8 #[.int .i64 A, .int .i64 x] w fun e w' => e = .returned (.tuple #[.bool q, .int .i64 0]) ∧ Gr w w')
    (k4 : ∀ w, Calls Try.prog 8 #[.int .i64 y, .int .i64 x] w fun e w' => e = .returned (.tuple #[.bool p, .int .i64 0]) ∧ Gr w w')
    (hl : (p = true ∧ 1000000 < r) ∨ (p = false ∧ q = false ∧ r ≤ 1000000)) :
    Calls Try.prog 5 #[.int .i64 a, .int .i64 b, .int .i64 d] w fun e w' => e = .returned (.bool true) ∧ Gr w w' := by
  have c1 := fun w => Lib.hid (k1 w)
  have c2 := fun w => Lib.hid (k2 w)
  have c3 := fun w => Lib.hid (k3 w)
  have c4 := fun w => Lib.hid (k4 w)
  have HA := Lib.hid hA
  have HB := Lib.hid hB
  have HD := Lib.hid hD
  have HX := Lib.hid hx
  have HY := Lib.hid hy
  clear k1 k2 k3 k4 hA hB hD hx hy
  go_enter Try.func5, Try.ntmps5
  go_wp2_with fail
  rw [HA.out, HB.out, HD.out]
  refine (c1 _).out.mono ?_
  rintro e w1 ⟨rfl, hb1⟩
  go_wp2_with fail
  refine (c2 _).out.mono ?_
  rintro e w2 ⟨rfl, hb2⟩
  go_wp2_with fail
  rw [HX.out]
  refine (c3 _).out.mono ?_
  rintro e w3 ⟨rfl, hb3⟩
  go_wp2_with fail
  rw [HX.out, HY.out]
  refine (c4 _).out.mono ?_
  rintro e w4 ⟨rfl, hb4⟩
  go_wp2_with fail
  refine (alive4_ok _).mono ?_
  rintro e w5 ⟨rfl, hb5⟩
  have G := (((hb1.trans hb2).trans hb3).trans hb4).trans hb5
  clear hb1 hb2 hb3 hb4 hb5
  rcases hl with ⟨rfl, hr⟩ | ⟨rfl, rfl, hr⟩
  · cases q
    · go_wp2_with fail
      go_ret
      exact ⟨rfl, G⟩
    · go_wp2_with fail
      go_ret
      exact ⟨rfl, G⟩
  · go_wp2_with fail
    go_ret
    refine ⟨?_, G⟩
    show Ending.returned (.bool (!decide (1000000 < r))) = _
    rw [decide_eq_false (by omega)]
    rfl

theorem cut60 (a : Int) : 0 ≤ wrap64 ((IntKind.u64.wrap a).tmod 1152921504606846976) ∧ wrap64 ((IntKind.u64.wrap a).tmod 1152921504606846976) < 1152921504606846976 := by
  have h : 0 ≤ IntKind.u64.wrap a := Int.emod_nonneg _ (by decide)
  have h1 := Int.tmod_nonneg 1152921504606846976 h
  have h2 := Int.tmod_lt_of_pos (IntKind.u64.wrap a) (by decide : (0 : Int) < 1152921504606846976)
  generalize (IntKind.u64.wrap a).tmod 1152921504606846976 = x at *
  unfold wrap64
  omega
theorem ClockLate_walk (w : World) (a : Int) (ha : -9223372036854775808 ≤ a ∧ a ≤ 9223372036854775807) (b : Int) (hb : -9223372036854775808 ≤ b ∧ b ≤ 9223372036854775807) (d : Int) (hd : -9223372036854775808 ≤ d ∧ d ≤ 9223372036854775807) :
    Calls Try.prog 5 #[.int .i64 a, .int .i64 b, .int .i64 d] w fun e w' => e = .returned (.bool true) ∧ Gr w w' := by
  have bA := cut60 a
  have bB := cut60 b
  have bD := cut60 d
  obtain ⟨A, hA⟩ : ∃ A, wrap64 ((IntKind.u64.wrap a).tmod 1152921504606846976) = A := ⟨_, rfl⟩
  obtain ⟨B, hB⟩ : ∃ B, wrap64 ((IntKind.u64.wrap b).tmod 1152921504606846976) = B := ⟨_, rfl⟩
  obtain ⟨D, hD⟩ : ∃ D, wrap64 ((IntKind.u64.wrap d).tmod 1152921504606846976) = D := ⟨_, rfl⟩
  rw [hA] at bA
  rw [hB] at bB
  rw [hD] at bD
  have tA : Tm A := by unfold Tm; omega
  have tB : Tm B := by unfold Tm; omega
  have tX : Tm (B + D) := by unfold Tm; omega
  have tY : Tm (A + D) := by unfold Tm; omega
  have e4 : gap B A = gap (B + D) (A + D) := by unfold gap; omega
  refine late_run w a b d A B D (gap B A) _ _ (decide ((0 : Int) = 0 ∧ 1000000 < gap B A)) (decide ((0 : Int) = 0 ∧ 1000000 < gap (B + D) A)) hA hB hD bA bB bD rfl rfl
    (fun w => Late_is (.inl ⟨tB, tA, rfl, rfl⟩) _ rfl w) (fun w => Since_is (.inl ⟨tB, tA, rfl, rfl⟩) w) (fun w => Late_is (.inl ⟨tX, tA, rfl, rfl⟩) _ rfl w) (fun w => Late_is (.inl ⟨tX, tY, e4, rfl⟩) _ rfl w) ?_
  by_cases h : 1000000 < gap B A
  · exact .inl ⟨by simp [h], h⟩
  · refine .inr ⟨by simp [h], ?_, by omega⟩
    rw [decide_eq_false_iff_not]
    unfold gap at *
    omega

set_option maxRecDepth 100000 in
theorem ClockLate_lifted (os : Os) (started : os.Started) (H : Type) (enc : TypeId × Value → H) :
    ReturnsInHanded {} Try.checked os 5 .any (Rows.clockLateSpec.pre6 enc Try.prog Try.f5 Rows.clockLateRow.domain false) (Rows.clockLateSpec.post enc Try.prog Try.f5 false true false false) := by
  refine returnsInHanded_of_change (C := Try.checked) own started (by kernel_rfl) Try.func5
    (ChangeSpec.witness6 (enc := enc) (C := Try.checked) false ⟨#[], #[.int .i64 0, .int .i64 0, .int .i64 0], []⟩ 8 (by kernel_rfl) (by kernel_rfl) (by kernel_rfl) (by kernel_rfl)) ?_
  intro W base args ds gs before hval0 hW hcnd _
  have hval : ∀ (j : Nat) t v, Try.f5.params[j]? = some t → args[j]? = some v → Value.okWide Try.prog W .any base t v := hval0
  have hW' := hW
  obtain ⟨p, q, hA0, hV, rfl, hfz, hnd⟩ := hW
  have hA : DataW.TrodAll enc Try.prog W 0 (fun _ => true) true Try.f5.params.toList args.toList ds p := hA0
  rw [Try.params5] at hA hval
  have hK := hA
  obtain ⟨v0, vs0, d0, ds0, p0, q0, hargs, rfl, hp, h0, r0⟩ := trodAll_cons hA
  obtain ⟨v1, vs1, d1, ds1, p1, q1, rfl, rfl, rfl, h1, r1⟩ := trodAll_cons r0
  obtain ⟨v2, vs2, d2, ds2, p2, q2, rfl, rfl, rfl, h2, r2⟩ := trodAll_cons r1
  obtain ⟨rfl, rfl, rfl⟩ := trodAll_nil r2
  obtain rfl : args = #[v0, v1, v2] := by cases args; simp_all
  obtain ⟨rfl, rfl⟩ := trodVars_none hV
  obtain ⟨a0, rfl, rfl, rfl, w0⟩ := open_int Try.underlying3 (hval 0 3 v0 rfl rfl) h0
  obtain ⟨a1, rfl, rfl, rfl, w1⟩ := open_int Try.underlying3 (hval 1 3 v1 rfl rfl) h1
  obtain ⟨a2, rfl, rfl, rfl, w2⟩ := open_int Try.underlying3 (hval 2 3 v2 rfl rfl) h2
  clear hA0 hval0
  refine (ClockLate_walk W a0 (wfb w0) a1 (wfb w1) a2 (wfb w2)).mono fun e W' ⟨he, hg⟩ => ?_
  subst he
  exact ⟨_, rfl, post_below (pa := p) (pv := []) hW' (fun _ _ _ => (trodAll_cons_mk (shut_bool Try.underlying4 _) trodAll_mk0))
    (fun sp hs => trodAll_stays laidOut hg sp (by kernel_rfl) hK (fun x hx => hW'.lt x (List.mem_append_left _ hx)) (fun x hx => hs x (List.mem_append_left _ hx))) (fun _ _ => rfl) rfl
    hg (ok_one (by kernel_rfl) rfl (okWide_bool_mk Try.underlying4 _))⟩

theorem ClockLate_over : Rows.clockLateRow.holds Try.pinned (OpenSpec.ofChange Rows.clockLateSpec) :=
  OpenClaim.holds_of_wide 5 Try.f5 rfl rfl rfl rfl rfl rfl rfl ⟨rfl, rfl, rfl, rfl, rfl⟩ rfl rfl rfl rfl rfl (by kernel_rfl) Try.func5 (by kernel_rfl)
    (of_decide_eq_true (by kernel_rfl)) (by unfold Func.isWrapper; first | (rw [if_pos (by decide +kernel)]; kernel_rfl) | (rw [if_neg (by decide +kernel)]; exact ⟨rfl, rfl⟩))
    (fun os started H enc _ => ClockLate_lifted os started H enc)

/-- The statement. -/
theorem ClockLate_holds : Rows.ClockLateSaid :=
  ClockLate_over
#print axioms ClockLate_holds
end Go.Proofs.Ytkohcjcpmoallaa
