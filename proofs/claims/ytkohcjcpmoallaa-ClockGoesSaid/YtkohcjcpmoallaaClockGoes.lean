/-
  Proved: deadboltlaw04.ClockGoes returns true at every input (ticks add up, in any order; who is late is late at each later time, and who is not was not ahead; nobody is farther apart than the spread). No condition.
-/
import Derived.Test.YtkohcjcpmoallaaClockGoesA
import Derived.Test.YtkohcjcpmoallaaClockGoesB
namespace Go.Proofs.Ytkohcjcpmoallaa
open Go.ChangeShapes Go.WideShapes Go.ChangeAt Go.RowKit
set_option linter.unusedVariables false

theorem cut60g (a : Int) : 0 ≤ wrap64 ((IntKind.u64.wrap a).tmod 1152921504606846976) ∧ wrap64 ((IntKind.u64.wrap a).tmod 1152921504606846976) < 1152921504606846976 := by
  have h : 0 ≤ IntKind.u64.wrap a := Int.emod_nonneg _ (by decide)
  have h1 := Int.tmod_nonneg 1152921504606846976 h
  have h2 := Int.tmod_lt_of_pos (IntKind.u64.wrap a) (by decide : (0 : Int) < 1152921504606846976)
  generalize (IntKind.u64.wrap a).tmod 1152921504606846976 = x at *
  unfold wrap64
  omega

/-- A row of three, as it is built. -/
theorem row3 (w : World) (a b c : Int) (ha : Inb a) (hb : Inb b) (hc : Inb c) (t : TypeId) : IMem (w.alloc (.cells #[.int .i64 a, .int .i64 b, .int .i64 c] t)) (some ⟨w.heap.size, 0, none⟩) 3 [a, b, c] := by
  refine ⟨rfl, ?_, fun _ => ⟨w.heap.size, 0, rfl, by simp, fun j x hx => ?_⟩⟩
  · intro x hx
    simp only [List.mem_cons, List.not_mem_nil, or_false] at hx
    rcases hx with rfl | rfl | rfl <;> assumption
  · match j, hx with
    | 0, hx => simp at hx; subst hx; simp
    | 1, hx => simp at hx; subst hx; simp
    | 2, hx => simp at hx; subst hx; simp
    | k + 3, hx => simp at hx

theorem ClockGoes_walk (w : World) (n : Int) (hn : -9223372036854775808 ≤ n ∧ n ≤ 9223372036854775807) (a : Int) (ha : -9223372036854775808 ≤ a ∧ a ≤ 9223372036854775807) (b : Int) (hb : -9223372036854775808 ≤ b ∧ b ≤ 9223372036854775807) (f : Int) (hf : -9223372036854775808 ≤ f ∧ f ≤ 9223372036854775807) :
    Calls Try.prog 4 #[.int .i64 n, .int .i64 a, .int .i64 b, .int .i64 f] w fun e w' => e = .returned (.bool true) ∧ Gr w w' := by
  have bN := cut60g n
  have bA := cut60g a
  have bB := cut60g b
  have bF := cut60g f
  obtain ⟨N, hN⟩ : ∃ A, wrap64 ((IntKind.u64.wrap n).tmod 1152921504606846976) = A := ⟨_, rfl⟩
  obtain ⟨A, hA⟩ : ∃ A, wrap64 ((IntKind.u64.wrap a).tmod 1152921504606846976) = A := ⟨_, rfl⟩
  obtain ⟨B, hB⟩ : ∃ A, wrap64 ((IntKind.u64.wrap b).tmod 1152921504606846976) = A := ⟨_, rfl⟩
  obtain ⟨F, hF⟩ : ∃ A, wrap64 ((IntKind.u64.wrap f).tmod 1152921504606846976) = A := ⟨_, rfl⟩
  rw [hN] at bN
  rw [hA] at bA
  rw [hB] at bB
  rw [hF] at bF
  have tN : Tm N := by unfold Tm; omega
  have tA : Tm A := by unfold Tm; omega
  have tB : Tm B := by unfold Tm; omega
  have tF : Tm F := by unfold Tm; omega
  have tx : Tm (N + A) := by unfold Tm; omega
  have tp : Tm (N + B) := by unfold Tm; omega
  have ty : Tm (N + A + B) := by unfold Tm; omega
  have es : A + B = gap N (N + A + B) := by unfold gap; omega
  obtain ⟨y, hy⟩ : ∃ y, N + A + B = y := ⟨_, rfl⟩
  rw [hy] at ty es
  have e1 : mnk [N, F, y] 3 = min (min (min N N) F) y := rfl
  have e2 : mxk [N, F, y] 3 = max (max (max N N) F) y := rfl
  have tm : Tm (min (min (min N N) F) y) := by unfold Tm; omega
  have tM : Tm (max (max (max N N) F) y) := by unfold Tm; omega
  obtain ⟨W, hW⟩ : ∃ W, W = gap (min (min (min N N) F) y) (max (max (max N N) F) y) := ⟨_, rfl⟩
  have hAp : Ap (mnk [N, F, y] 3) (mxk [N, F, y] 3) W 0 := by rw [e1, e2]; exact .inl ⟨tm, tM, hW, rfl⟩
  obtain ⟨u, hu⟩ : ∃ u, u = gap N F := ⟨_, rfl⟩
  obtain ⟨v, hv⟩ : ∃ v, v = gap F N := ⟨_, rfl⟩
  obtain ⟨e, he⟩ : ∃ e, decide ((0 : Int) = 0 ∧ 1000000 < v) = e := ⟨_, rfl⟩
  obtain ⟨l, hl⟩ : ∃ l, decide ((0 : Int) = 0 ∧ 1000000 < gap F (N + A)) = l := ⟨_, rfl⟩
  have H : GoesIs N A B F (N + A) y (N + B) W (A + B) u v e l :=
    ⟨fun w => Tick_is (.inl ⟨tN, tA, by unfold Tm at *; omega, rfl, rfl⟩) w, fun w => Tick_is (.inl ⟨tx, tB, by unfold Tm at *; omega, hy.symm, rfl⟩) w,
     fun w => Tick_is (.inl ⟨tN, tB, by unfold Tm at *; omega, rfl, rfl⟩) w, fun w => Tick_is (.inl ⟨tp, tA, by unfold Tm at *; omega, by omega, rfl⟩) w,
     fun w => Late_is (.inl ⟨tF, tN, hv, rfl⟩) e he w, fun w => Late_is (.inl ⟨tF, tx, rfl, rfl⟩) l hl w,
     fun w => Since_is (.inl ⟨tN, ty, es, rfl⟩) w,
     fun w => (Spread_is _ 3 3 [N, F, y] _ (row3 w N F y (by unfold Inb; unfold Tm at tN; omega) (by unfold Inb; unfold Tm at tF; omega) (by unfold Inb; unfold Tm at ty; omega) _) (by omega) (by omega) W 0 hAp).mono fun e w' ⟨h1, h2⟩ => ⟨h1, ((Gr.refl w).al _).trans h2⟩,
     fun w => Since_is (.inl ⟨tN, tF, hu, rfl⟩) w, fun w => Since_is (.inl ⟨tF, tN, hv, rfl⟩) w⟩
  have el : e = false ∨ (e = true ∧ l = true) := by
    by_cases h : 1000000 < v
    · refine .inr ⟨by rw [← he]; simp [h], ?_⟩
      rw [← hl, decide_eq_true_iff]
      unfold gap at *
      omega
    · exact .inl (by rw [← he]; simp [h])
  have wu : u ≤ W := by rw [hu, hW]; unfold gap; omega
  have wv : v ≤ W := by rw [hv, hW]; unfold gap; omega
  have ws : A + B ≤ W := by rw [hW]; unfold gap; omega
  by_cases hFN : F < N
  · refine goes_runB w n a b f N A B F _ y _ W _ u v e l hN hA hB hF bA bB bF (by unfold Tm at ty; omega) H rfl wu wv ws ⟨by rw [hu]; unfold gap; omega, by rw [hW]; unfold gap; omega, el, ?_⟩
    by_cases hyN : y = N
    · exact .inl (by rw [hW, hv]; unfold gap; omega)
    · exact .inr (by rw [hW, hv]; unfold gap; omega)
  · have ef : e = false := by rw [← he, decide_eq_false_iff_not, hv]; unfold gap; omega
    refine goes_runA w n a b f N A B F _ y _ W _ u v e l hN hA hB hF bA bB bF (by unfold Tm at ty; omega) H rfl wu wv ws ?_
    by_cases h1 : y ≤ F
    · by_cases h2 : F = N
      · exact .inr (.inl ⟨ef, by rw [hW, hu]; unfold gap; omega, by rw [hu]; unfold gap; omega⟩)
      · exact .inl ⟨ef, by rw [hW, hu]; unfold gap; omega, by rw [hu]; unfold gap; omega, by rw [hv]; unfold gap; omega⟩
    · by_cases h2 : F = N
      · exact .inr (.inr (.inl ⟨ef, by rw [hW, hu]; unfold gap; omega, by rw [hW, hv]; unfold gap; omega, by rw [hW]; unfold gap; omega, by rw [hu]; unfold gap; omega⟩))
      · exact .inr (.inr (.inr ⟨ef, by rw [hW, hu]; unfold gap; omega, by rw [hW, hv]; unfold gap; omega, by rw [hW]; unfold gap; omega, by rw [hu]; unfold gap; omega, by rw [hv]; unfold gap; omega⟩))

set_option maxRecDepth 100000 in
theorem ClockGoes_lifted (os : Os) (started : os.Started) (H : Type) (enc : TypeId × Value → H) :
    ReturnsInHanded {} Try.checked os 4 .any (Rows.clockGoesSpec.pre6 enc Try.prog Try.f4 Rows.clockGoesRow.domain false) (Rows.clockGoesSpec.post enc Try.prog Try.f4 false true false false) := by
  refine returnsInHanded_of_change (C := Try.checked) own started (by kernel_rfl) Try.func4
    (ChangeSpec.witness6 (enc := enc) (C := Try.checked) false ⟨#[], #[.int .i64 0, .int .i64 0, .int .i64 0, .int .i64 0], []⟩ 8 (by kernel_rfl) (by kernel_rfl) (by kernel_rfl) (by kernel_rfl)) ?_
  intro W base args ds gs before hval0 hW hcnd _
  have hval : ∀ (j : Nat) t v, Try.f4.params[j]? = some t → args[j]? = some v → Value.okWide Try.prog W .any base t v := hval0
  have hW' := hW
  obtain ⟨p, q, hA0, hV, rfl, hfz, hnd⟩ := hW
  have hA : DataW.TrodAll enc Try.prog W 0 (fun _ => true) true Try.f4.params.toList args.toList ds p := hA0
  rw [Try.params4] at hA hval
  have hK := hA
  obtain ⟨v0, vs0, d0, ds0, p0, q0, hargs, rfl, hp, h0, r0⟩ := trodAll_cons hA
  obtain ⟨v1, vs1, d1, ds1, p1, q1, rfl, rfl, rfl, h1, r1⟩ := trodAll_cons r0
  obtain ⟨v2, vs2, d2, ds2, p2, q2, rfl, rfl, rfl, h2, r2⟩ := trodAll_cons r1
  obtain ⟨v3, vs3, d3, ds3, p3, q3, rfl, rfl, rfl, h3, r3⟩ := trodAll_cons r2
  obtain ⟨rfl, rfl, rfl⟩ := trodAll_nil r3
  obtain rfl : args = #[v0, v1, v2, v3] := by cases args; simp_all
  obtain ⟨rfl, rfl⟩ := trodVars_none hV
  obtain ⟨a0, rfl, rfl, rfl, w0⟩ := open_int Try.underlying3 (hval 0 3 v0 rfl rfl) h0
  obtain ⟨a1, rfl, rfl, rfl, w1⟩ := open_int Try.underlying3 (hval 1 3 v1 rfl rfl) h1
  obtain ⟨a2, rfl, rfl, rfl, w2⟩ := open_int Try.underlying3 (hval 2 3 v2 rfl rfl) h2
  obtain ⟨a3, rfl, rfl, rfl, w3⟩ := open_int Try.underlying3 (hval 3 3 v3 rfl rfl) h3
  clear hA0 hval0
  refine (ClockGoes_walk W a0 (wfb w0) a1 (wfb w1) a2 (wfb w2) a3 (wfb w3)).mono fun e W' ⟨he, hg⟩ => ?_
  subst he
  exact ⟨_, rfl, post_below (pa := p) (pv := []) hW' (fun _ _ _ => (trodAll_cons_mk (shut_bool Try.underlying4 _) trodAll_mk0))
    (fun sp hs => trodAll_stays laidOut hg sp (by kernel_rfl) hK (fun x hx => hW'.lt x (List.mem_append_left _ hx)) (fun x hx => hs x (List.mem_append_left _ hx))) (fun _ _ => rfl) rfl
    hg (ok_one (by kernel_rfl) rfl (okWide_bool_mk Try.underlying4 _))⟩

theorem ClockGoes_over : Rows.clockGoesRow.holds Try.pinned (OpenSpec.ofChange Rows.clockGoesSpec) :=
  OpenClaim.holds_of_wide 4 Try.f4 rfl rfl rfl rfl rfl rfl rfl ⟨rfl, rfl, rfl, rfl, rfl⟩ rfl rfl rfl rfl rfl (by kernel_rfl) Try.func4 (by kernel_rfl)
    (of_decide_eq_true (by kernel_rfl)) (by unfold Func.isWrapper; first | (rw [if_pos (by decide +kernel)]; kernel_rfl) | (rw [if_neg (by decide +kernel)]; exact ⟨rfl, rfl⟩))
    (fun os started H enc _ => ClockGoes_lifted os started H enc)

/-- The statement. -/
theorem ClockGoes_holds : Rows.ClockGoesSaid :=
  ClockGoes_over
#print axioms ClockGoes_holds
end Go.Proofs.Ytkohcjcpmoallaa
