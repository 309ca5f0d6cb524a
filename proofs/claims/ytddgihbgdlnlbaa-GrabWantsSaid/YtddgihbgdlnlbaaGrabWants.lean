/-
  Proved: deadboltlaw14.GrabWants returns true at every input (who wants clears no bit that others set, but Woken, where it is his; he adds himself to those who wait just where he does not have it; he wants it locked, where it is not handed on, and starving only where it is locked). No condition.
-/
import Derived.Test.YtddgihbgdlnlbaaGrabWantsA
import Derived.Test.YtddgihbgdlnlbaaGrabWantsB
namespace Go.Proofs.Ytddgihbgdlnlbaa
open Go.ChangeShapes Go.WideShapes Go.ChangeAt Go.RowKit Go.Deep
set_option linter.unusedVariables false

open P14 P3 P4
theorem GrabWants_walk (w : World) (s : Int) (t k : Bool) (r o : Int) (hs : P14.B64 s) (hr : P14.B64 r) (ho : P14.B64 o) :
    Calls Try.prog 5 #[ov s t k r o] w fun e w' => e = .returned (.bool true) ∧ Gr w w' := by
  by_cases h : OkS s r ∧ OkW o
  · obtain ⟨a, b, c, n, rfl, hn⟩ := P3.pw_of h.2
    by_cases hb : b = true ∨ k = false
    · by_cases hm : OkN (n + more a c)
      · cases a <;> cases c
        · exact GrabWants_ff h.1 hn hb hm rfl rfl
        · exact GrabWants_ft h.1 hn hb hm rfl rfl
        · exact GrabWants_tf h.1 hn hb hm rfl rfl
        · exact GrabWants_tt h.1 hn hb hm rfl rfl
      · have hac : (a || c) = true := by
          cases q : (a || c)
          · have e : more a c = 0 := by unfold more; rw [q]; rfl
            rw [e, Int.add_zero] at hm
            exact absurd hn hm
          · rfl
        have hm' : ¬ OkN (n + 1) := by
          have e : more a c = 1 := by unfold more; rw [hac]; rfl
          rw [e] at hm; exact hm
        exact GrabWants_no (y := 10) (z := 0) (v := !a && !c) (by decide) (.inl (by decide)) (fun w => Lib.hid (Wants_over h.1 hn hb hac hm')) (fun w => Lib.hid (Got_yes h.1 hn))
    · obtain ⟨rfl, rfl⟩ : b = false ∧ k = true := by cases b <;> cases k <;> simp_all
      exact GrabWants_no (y := 12) (z := 0) (v := !a && !c) (by decide) (.inl (by decide)) (fun w => Lib.hid (Wants_broken h.1 hn)) (fun w => Lib.hid (Got_yes h.1 hn))
  · exact GrabWants_no (y := 1) (z := 1) (v := false) (by decide) (.inr rfl) (fun w => Lib.hid (Wants_bad h)) (fun w => Lib.hid (Got_bad h))
set_option maxRecDepth 100000 in
theorem GrabWants_lifted (os : Os) (started : os.Started) (H : Type) (enc : TypeId × Value → H) :
    ReturnsInHanded {} Try.checked os 5 .any (Rows.grabWantsSpec.pre6 enc Try.prog Try.f5 Rows.grabWantsRow.domain false) (Rows.grabWantsSpec.post enc Try.prog Try.f5 false true false false) := by
  refine returnsInHanded_of_change (C := Try.checked) own started (by kernel_rfl) Try.func5
    (ChangeSpec.witness6 (enc := enc) (C := Try.checked) false ⟨#[], #[.agg #[.int .i64 0, .bool false, .bool false, .int .i64 0, .int .i64 0]], []⟩ 8 (by kernel_rfl) (by kernel_rfl) (by kernel_rfl) (by kernel_rfl)) ?_
  intro W base args ds gs before hval0 hW hcnd _
  have hval : ∀ (j : Nat) t v, Try.f5.params[j]? = some t → args[j]? = some v → Value.okWide Try.prog W .any base t v := hval0
  have hW' := hW
  obtain ⟨p, q, hA0, hV, rfl, hfz, hnd⟩ := hW
  have hA : DataW.TrodAll enc Try.prog W 0 (fun _ => true) true Try.f5.params.toList args.toList ds p := hA0
  rw [Try.params5] at hA hval
  have hK := hA
  obtain ⟨v0, vs0, d0, ds0, p0, q0, hargs, rfl, hp, h0, r0⟩ := trodAll_cons hA
  obtain ⟨rfl, rfl, rfl⟩ := trodAll_nil r0
  obtain rfl : args = #[v0] := by cases args; simp_all
  obtain ⟨rfl, rfl⟩ := trodVars_none hV
  obtain ⟨s0, t0, k0, r0, o0, rfl, hs0, hr0, ho0⟩ := P14.open_own (hval 0 23 v0 rfl rfl) h0
  clear hA0 hval0
  refine (GrabWants_walk W s0 t0 k0 r0 o0 hs0 hr0 ho0).mono fun e W' ⟨he, hg⟩ => ?_
  subst he
  exact ⟨_, rfl, post_below (pa := p) (pv := []) hW' (fun _ _ _ => (trodAll_cons_mk (shut_bool Try.underlying4 _) trodAll_mk0))
    (fun sp hs => trodAll_stays laidOut hg sp (by kernel_rfl) hK (fun x hx => hW'.lt x (List.mem_append_left _ hx)) (fun x hx => hs x (List.mem_append_left _ hx))) (fun _ _ => rfl) rfl
    hg (ok_one (by kernel_rfl) rfl (okWide_bool_mk Try.underlying4 _))⟩

theorem GrabWants_over : Rows.grabWantsRow.holds Try.pinned (OpenSpec.ofChange Rows.grabWantsSpec) :=
  OpenClaim.holds_of_wide 5 Try.f5 rfl rfl rfl rfl rfl rfl rfl ⟨rfl, rfl, rfl, rfl, rfl⟩ rfl rfl rfl rfl rfl (by kernel_rfl) Try.func5 (by kernel_rfl)
    (of_decide_eq_true (by kernel_rfl)) (by unfold Func.isWrapper; first | (rw [if_pos (by decide +kernel)]; kernel_rfl) | (rw [if_neg (by decide +kernel)]; exact ⟨rfl, rfl⟩))
    (fun os started H enc _ => GrabWants_lifted os started H enc)

/-- The statement. -/
theorem GrabWants_holds : Rows.GrabWantsSaid :=
  GrabWants_over
#print axioms GrabWants_holds
end Go.Proofs.Ytddgihbgdlnlbaa
