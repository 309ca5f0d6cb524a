/-
  Proved: deadboltlaw06.SpinDraws returns true at every input (who draws has as many ahead as were out, and it is its turn when so many more are done). No condition.
-/
import Derived.Test.YtibbndoohpfbmaaSpinMath
namespace Go.Proofs.Ytibbndoohpfbmaa
open Go.ChangeShapes Go.WideShapes Go.ChangeAt Go.RowKit
set_option linter.unusedVariables false

set_option maxHeartbeats 2000000 in
set_option maxRecDepth 100000 in
theorem draws_no (w : World) (n s : Int) (hn : B64 n) (hs : B64 s) (h : tkB n s = false) :
    Calls Try.prog 5 #[.agg #[.int .i64 n, .int .i64 s]] w fun e w' => e = .returned (.bool true) ∧ Gr w w' := by
  have c1 := fun w => Lib.hid (Out_is (.inr ⟨h, rfl, rfl⟩) hn hs w)
  clear h
  go_enter Try.func5, Try.ntmps5
  go_wp2_with fail
  refine (c1 _).out.mono ?_
  rintro e w1 ⟨rfl, hb1⟩
  go_wp2_with fail
  refine (alive6_ok _).mono ?_
  rintro e w2 ⟨rfl, hb2⟩
  go_wp2_with fail
  go_ret
  exact ⟨rfl, (((Gr.refl w).al _).trans hb1).trans hb2⟩
set_option maxHeartbeats 2000000 in
set_option maxRecDepth 100000 in
theorem draws_far (w : World) (n s k : Int) (hn : B64 n) (hs : B64 s) (h : tkB n s = true) (hk : outT n s = k) (h50 : 50 < k) :
    Calls Try.prog 5 #[.agg #[.int .i64 n, .int .i64 s]] w fun e w' => e = .returned (.bool true) ∧ Gr w w' := by
  have c1 := fun w => Lib.hid (Out_is (.inl ⟨h, hk, rfl⟩) hn hs w)
  clear h hk
  go_enter Try.func5, Try.ntmps5
  go_wp2_with fail
  refine (c1 _).out.mono ?_
  rintro e w1 ⟨rfl, hb1⟩
  go_wp2_with fail
  refine (alive6_ok _).mono ?_
  rintro e w2 ⟨rfl, hb2⟩
  go_wp2_with fail
  go_ret
  exact ⟨rfl, (((Gr.refl w).al _).trans hb1).trans hb2⟩
set_option maxHeartbeats 4000000 in
set_option maxRecDepth 100000 in
theorem draws_near (w : World) (n s x : Int) (K : Nat) (hn : 0 ≤ n ∧ n < 4294967296) (hs : 0 ≤ s ∧ s < 4294967296) (hk : outT n s = (K : Int)) (h50 : K ≤ 50) (hx : up1 n = x) :
    Calls Try.prog 5 #[.agg #[.int .i64 n, .int .i64 s]] w fun e w' => e = .returned (.bool true) ∧ Gr w w' := by
  have bx : 0 ≤ x ∧ x < 4294967296 := by rw [up1_eq] at hx; omega
  have tk := (tk_iff n s).2 ⟨hn, hs⟩
  have hs0 : atN 1 s 0 = s := by rw [at1_eq]; omega
  have hsK : atN 1 s K = n := by rw [at1_eq]; rw [outT_eq] at hk; omega
  have tkj : ∀ j, tkB x (atN 1 s j) = true := fun j => (tk_iff _ _).2 ⟨bx, by rw [at1_eq]; omega⟩
  have c1 := fun w => Lib.hid (Out_is (.inl ⟨tk, hk, rfl⟩) (b64_of hn) (b64_of hs) w)
  have c2 := fun w => Lib.hid (Draw_is (.inr (.inr ⟨tk, by omega, hx.symm, rfl, rfl, rfl⟩)) (b64_of hn) (b64_of hs) w)
  have c3 := fun w => Lib.hid (Out_is (n := x) (s := s) (v := (K : Int) + 1) (q := 0) (.inl ⟨(tk_iff _ _).2 ⟨bx, hs⟩, by rw [outT_eq] at hk ⊢; rw [up1_eq] at hx; omega, rfl⟩) (b64_of bx) (b64_of hs) w)
  have c4 := fun j w (hj : j < K) => Lib.hid (Turn_is (n := x) (s := atN 1 s j) (m := n) (v := false) (q := 0) (.inl ⟨tkj j, beq_eq_false_iff_ne.2 (by rw [at1_eq]; rw [outT_eq] at hk; omega), rfl⟩) (b64_of bx) (at1_b s j) w)
  have c5 := fun w => Lib.hid (Turn_is (n := x) (s := atN 1 s K) (m := n) (v := true) (q := 0) (.inl ⟨tkj K, by rw [hsK]; exact beq_self_eq_true _, rfl⟩) (b64_of bx) (at1_b s K) w)
  have c6 := fun j w (hj : j < K) => Lib.hid (Done_is (n := x) (s := atN 1 s j) (a := x) (b := atN 1 s (j + 1)) (q := 0) (.inr (.inr ⟨tkj j, by rw [outT_eq, at1_eq]; rw [outT_eq] at hk; rw [up1_eq] at hx; omega, rfl, (atN_succ 1 s j).symm, rfl⟩)) (b64_of bx) (at1_b s j) w)
  have hK50 : ¬ 50 < (K : Int) := by omega
  have hKw : IntKind.i64.wrap ((K : Int) + 1) = (K : Int) + 1 := by rw [IntKind.wrap_i64]; omega
  clear hk hx tkj tk hsK
  go_enter Try.func5, Try.ntmps5
  go_wp2_with fail
  refine (c1 _).out.mono ?_
  rintro e w1 ⟨rfl, hb1⟩
  have T1 := (Two.new w n s).gr hb1
  have G1 := ((Gr.refl w).al (.cells #[.int .i64 n, .int .i64 s] 23)).trans hb1
  obtain ⟨q0, q1⟩ := T1.cells
  go_wp2_with fail
  refine (c2 _).out.mono ?_
  rintro e w2 ⟨rfl, hb2⟩
  have T2 := Lib.hid (T1.gr hb2)
  have G2 := Lib.hid (G1.trans hb2)
  clear q0 q1 T1 G1 hb1 hb2
  go_wp2_with fail
  refine (c3 _).out.mono ?_
  rintro e w3 ⟨rfl, hb3⟩
  have T3 := Lib.hid ((T2.out.gr ((Gr.refl _).al (.cells #[.int .i64 x, .int .i64 s] 23))).gr hb3)
  have U3 := Lib.hid ((Two.new w2 x s).gr hb3)
  have G3 := Lib.hid ((G2.out.al (.cells #[.int .i64 x, .int .i64 s] 23)).trans hb3)
  obtain ⟨q0, q1⟩ := T3.out.cells
  clear T2
  go_wp2_with fail
  refine (alive6_ok _).mono ?_
  rintro e w4 ⟨rfl, hb4⟩
  have U4 := Lib.hid (U3.out.gr hb4)
  have G4 := Lib.hid (G3.out.trans hb4)
  have hU : w.heap.size ≤ w2.heap.size := G2.out.size
  clear q0 q1 T3 U3 G3 G2 hb3 hb4
  go_wp2_with fail
  go_loopw [70] (fun i wr => ∃ j : Nat, i = .int .i64 (j : Int) ∧ j ≤ K ∧ Hid (Two wr w2.heap.size x (atN 1 s j)) ∧ Hid (Gr w wr)) (fun i _ => K - (intOf i).toNat)
  case atStart => exact ⟨0, rfl, Nat.zero_le _, Lib.hid (by rw [hs0]; exact U4.out), G4⟩
  case round =>
    clear U4 G4
    obtain ⟨j, rfl, hj, U, G⟩ := hrel
    obtain ⟨q0, q1⟩ := U.out.cells
    by_cases hlt : j < K
    · have d4 := fun w => c4 j w hlt
      have d6 := fun w => c6 j w hlt
      clear c4 c6 c5
      generalize atN 1 s j = a at *
      generalize hbq : atN 1 s (j + 1) = b at *
      have HB := Lib.hid hbq
      clear hbq
      go_wp2_with fail
      refine (d4 _).out.mono ?_
      rintro e w5 ⟨rfl, hb5⟩
      have U5 := Lib.hid (U.out.gr hb5)
      have G5 := Lib.hid (G.out.trans hb5)
      clear q0 q1 U G
      obtain ⟨q0, q1⟩ := U5.out.cells
      go_wp2_with fail
      refine (d6 _).out.mono ?_
      rintro e w6 ⟨rfl, hb6⟩
      have U6 := Lib.hid (U5.out.gr hb6)
      have G6 := Lib.hid (G5.out.trans hb6)
      clear q0 q1 U5 G5
      obtain ⟨q0, q1⟩ := U6.out.cells
      have f0 := U6.out.frozen 0
      have f1 := U6.out.frozen 1
      have hlt6 := U6.out.lt
      have hne : w2.heap.size ≠ w6.heap.size := by omega
      go_wp2_with fail
      go_roundw
      case rel =>
        refine ⟨j + 1, by go_num, by omega, ?_, ?_⟩
        · rw [HB.out]
          exact Lib.hid (((U6.out.set0 x).set1 b).gr ((Gr.refl _).al (.cells #[.int .i64 x, .int .i64 b] 23)))
        · exact Lib.hid (((G6.out.st (p := ⟨w2.heap.size, 0, none⟩) hU _).st (p := ⟨w2.heap.size, 1, none⟩) hU _).al _)
      case measure => simp [intOf]; omega
    · obtain rfl : j = K := by omega
      go_wp2_with fail
      refine (c5 _).out.mono ?_
      rintro e w5 ⟨rfl, hb5⟩
      go_wp2_with fail
      go_ret
      exact ⟨rfl, G.out.trans hb5⟩
theorem SpinDraws_walk (w : World) (n s : Int) (hn : B64 n) (hs : B64 s) :
    Calls Try.prog 5 #[.agg #[.int .i64 n, .int .i64 s]] w fun e w' => e = .returned (.bool true) ∧ Gr w w' := by
  cases h : tkB n s
  · exact draws_no w n s hn hs h
  · obtain ⟨b1, b2⟩ := (tk_iff n s).1 h
    have hk := outT_eq n s
    by_cases h50 : 50 < outT n s
    · exact draws_far w n s _ hn hs h rfl h50
    · exact draws_near w n s _ (outT n s).toNat b1 b2 (by omega) (by omega) rfl
set_option maxRecDepth 100000 in
theorem SpinDraws_lifted (os : Os) (started : os.Started) (H : Type) (enc : TypeId × Value → H) :
    ReturnsInHanded {} Try.checked os 5 .any (Rows.spinDrawsSpec.pre6 enc Try.prog Try.f5 Rows.spinDrawsRow.domain false) (Rows.spinDrawsSpec.post enc Try.prog Try.f5 false true false false) := by
  refine returnsInHanded_of_change (C := Try.checked) own started (by kernel_rfl) Try.func5
    (ChangeSpec.witness6 (enc := enc) (C := Try.checked) false ⟨#[], #[.agg #[.int .i64 0, .int .i64 0]], []⟩ 8 (by kernel_rfl) (by kernel_rfl) (by kernel_rfl) (by kernel_rfl)) ?_
  intro W base args ds gs before hval0 hW hcnd _
  have hval : ∀ (j : Nat) t v, Try.f5.params[j]? = some t → args[j]? = some v → Value.okWide Try.prog W .any base t v := hval0
  have hW' := hW
  obtain ⟨p, q, hA0, hV, rfl, hfz, hnd⟩ := hW
  have hA : DataW.TrodAll enc Try.prog W 0 (fun _ => true) true Try.f5.params.toList args.toList ds p := hA0
  rw [Try.params5] at hA hval
  have hK := hA
  obtain ⟨v0, vs0, d0, ds0, p0, q0, hargs, rfl, hp, h0, r0⟩ := trodAll_cons hA
  obtain ⟨rfl, rfl, rfl⟩ := trodAll_nil r0
  obtain rfl : args = #[v0] := by cases args; simp_all
  obtain ⟨rfl, rfl⟩ := trodVars_none hV
  obtain ⟨n0, s0, rfl, hn0, hs0⟩ := open_ticket (hval 0 23 v0 rfl rfl) h0
  clear hA0 hval0
  refine (SpinDraws_walk W n0 s0 hn0 hs0).mono fun e W' ⟨he, hg⟩ => ?_
  subst he
  exact ⟨_, rfl, post_below (pa := p) (pv := []) hW' (fun _ _ _ => (trodAll_cons_mk (shut_bool Try.underlying4 _) trodAll_mk0))
    (fun sp hs => trodAll_stays laidOut hg sp (by kernel_rfl) hK (fun x hx => hW'.lt x (List.mem_append_left _ hx)) (fun x hx => hs x (List.mem_append_left _ hx))) (fun _ _ => rfl) rfl
    hg (ok_one (by kernel_rfl) rfl (okWide_bool_mk Try.underlying4 _))⟩

theorem SpinDraws_over : Rows.spinDrawsRow.holds Try.pinned (OpenSpec.ofChange Rows.spinDrawsSpec) :=
  OpenClaim.holds_of_wide 5 Try.f5 rfl rfl rfl rfl rfl rfl rfl ⟨rfl, rfl, rfl, rfl, rfl⟩ rfl rfl rfl rfl rfl (by kernel_rfl) Try.func5 (by kernel_rfl)
    (of_decide_eq_true (by kernel_rfl)) (by unfold Func.isWrapper; first | (rw [if_pos (by decide +kernel)]; kernel_rfl) | (rw [if_neg (by decide +kernel)]; exact ⟨rfl, rfl⟩))
    (fun os started H enc _ => SpinDraws_lifted os started H enc)

/-- The statement. -/
theorem SpinDraws_holds : Rows.SpinDrawsSaid :=
  SpinDraws_over
#print axioms SpinDraws_holds
end Go.Proofs.Ytibbndoohpfbmaa
