/-
  Proved: deadboltlaw14.GrabWaits returns true at every input (who goes to wait does so since the first time, however often he does; he starves just from when he waited too long, and never stops to). No condition.
-/
import Derived.Test.YtddgihbgdlnlbaaGrabAlive
import Derived.Test.YtddgihbgdlnlbaaGrabSleep
import Derived.Test.YtddgihbgdlnlbaaGrabWake
import Derived.Test.YtddgihbgdlnlbaaOpenOwn
import Derived.Test.YtddgihbgdlnlbaaEnds
import Derived.Deep.DeepCutAuto
namespace Go.Proofs.Ytddgihbgdlnlbaa
open Go.ChangeShapes Go.WideShapes Go.ChangeAt Go.RowKit Go.Deep
set_option linter.unusedVariables false
set_option linter.unusedSimpArgs false
set_option maxRecDepth 100000

open P14 P3 P4
theorem cut60 (a : Int) : 0 ≤ wrap64 ((IntKind.u64.wrap a).tmod 1152921504606846976) ∧ wrap64 ((IntKind.u64.wrap a).tmod 1152921504606846976) < 1152921504606846976 := by
  have h : 0 ≤ IntKind.u64.wrap a := Int.emod_nonneg _ (by decide)
  have h1 := Int.tmod_nonneg 1152921504606846976 h
  have h2 := Int.tmod_lt_of_pos (IntKind.u64.wrap a) (by decide : (0 : Int) < 1152921504606846976)
  generalize (IntKind.u64.wrap a).tmod 1152921504606846976 = x at *
  unfold wrap64
  omega
theorem own_nn (w : World) : (binOp .eql 23 (ov 0 false false 0 0) (ov 0 false false 0 0)).run Try.prog w = .ok (.bool true) w := by kernel_rfl
theorem own_same (s : Int) (t k : Bool) (r o : Int) (w : World) : (binOp .eql 23 (ov s t k r o) (ov s t k r o)).run Try.prog w = .ok (.bool true) w := by
  rw [run_own_eql, ovEq_refl]
theorem own_diff (s : Int) (t k : Bool) (r o : Int) (w : World) : (binOp .neq 23 (ov s t k r o) (ov s t k r o)).run Try.prog w = .ok (.bool false) w := by
  rw [run_own_neq, ovEq_refl]; rfl
section
variable {s r : Int} {t k : Bool} {o x now more U D V S R : Int} {T K lt p q q' : Bool} {w : World}
set_option maxHeartbeats 4000000 in
theorem GrabWaits_bad (hU : wrap64 ((IntKind.u64.wrap now).tmod 1152921504606846976) = U) (hD : wrap64 ((IntKind.u64.wrap more).tmod 1152921504606846976) = D)
    (h1 : ∀ w, Calls Try.prog 23 #[ov s t k r o, .int .i64 U] w fun e w' => e = .returned (.tuple #[ov 0 false false 0 0, .bool false, .int .i64 1]) ∧ Gr w w') :
    Calls Try.prog 7 #[ov s t k r o, .int .i64 now, .int .i64 more, .int .i64 x] w fun e w' => e = .returned (.bool true) ∧ Gr w w' := by
  have H1 := fun w => Lib.hid (h1 w)
  have HAL := fun w => Lib.hid (alive_is w)
  have HG := Lib.hid ((Gr.refl w).al (.cells #[.int .i64 s, .bool t, .bool k, .int .i64 r, .int .i64 o] 23))
  clear h1
  go_enter Try.func7, Try.ntmps7
  go_wp2_with fail
  with_reducible refine (H1 _).out.mono ?_
  rintro e w1 ⟨rfl, g⟩
  replace HG := Lib.hid (HG.out.trans g)
  clear g
  replace HG := Lib.hid (HG.out.al (.cells #[.int .i64 0, .bool false, .bool false, .int .i64 0, .int .i64 0] 23))
  go_wp2_with fail
  with_reducible refine (HAL _).out.mono ?_
  rintro e w2 ⟨rfl, g⟩
  replace HG := Lib.hid (HG.out.trans g)
  clear g
  go_wp2_with fail
  go_ret
  exact ⟨rfl, HG.out⟩
set_option maxHeartbeats 8000000 in
theorem GrabWaits_word (hU : wrap64 ((IntKind.u64.wrap now).tmod 1152921504606846976) = U) (hD : wrap64 ((IntKind.u64.wrap more).tmod 1152921504606846976) = D) (hV : wrap64 (U + D) = V)
    (h1 : ∀ w, Calls Try.prog 23 #[ov s t k r o, .int .i64 U] w fun e w' => e = .returned (.tuple #[ov S t k r o, .bool p, .int .i64 0]) ∧ Gr w w')
    (h2 : ∀ w, Calls Try.prog 23 #[ov S t k r o, .int .i64 V] w fun e w' => e = .returned (.tuple #[ov S t k r o, .bool true, .int .i64 0]) ∧ Gr w w')
    (hs : (s = -1 ∧ S = U ∧ p = false ∧ (U != -1) = true) ∨ ((s != -1) = true ∧ S = s ∧ p = true))
    (h3 : ∀ w, Calls Try.prog 24 #[ov S t k r o, .int .i64 V, .int .i64 x] w fun e w' => e = .returned (.tuple #[ov 0 false false 0 0, .bool false, .int .i64 1]) ∧ Gr w w') :
    Calls Try.prog 7 #[ov s t k r o, .int .i64 now, .int .i64 more, .int .i64 x] w fun e w' => e = .returned (.bool true) ∧ Gr w w' := by
  have H1 := fun w => Lib.hid (h1 w)
  have H2 := fun w => Lib.hid (h2 w)
  have H3 := fun w => Lib.hid (h3 w)
  have HAL := fun w => Lib.hid (alive_is w)
  have HNN := own_nn
  have HDF := fun w => own_diff S t k r o w
  have HB := Lib.hid (Blk.new w #[.int .i64 s, .bool t, .bool k, .int .i64 r, .int .i64 o] 23)
  have HG := Lib.hid ((Gr.refl w).al (.cells #[.int .i64 s, .bool t, .bool k, .int .i64 r, .int .i64 o] 23))
  have NA := Lib.hid fun (w1 : World) => Blk.new w1 #[.int .i64 S, .bool t, .bool k, .int .i64 r, .int .i64 o] 23
  have AB := Lib.hid fun (w1 : World) (b : Nat) (vs : Array Value) (ty : TypeId) (B : Blk w1 b vs ty) => B.al (.cells #[.int .i64 S, .bool t, .bool k, .int .i64 r, .int .i64 o] 23)
  have AG := Lib.hid fun (w1 : World) (B : Gr w w1) => B.al (.cells #[.int .i64 S, .bool t, .bool k, .int .i64 r, .int .i64 o] 23)
  clear h1 h2 h3
  rcases hs with ⟨rfl, rfl, rfl, hn⟩ | ⟨hn, rfl, rfl⟩
  all_goals (
    go_enter Try.func7, Try.ntmps7
    go_wp2_with fail
    with_reducible refine (H1 _).out.mono ?_
    rintro e w1 ⟨rfl, g⟩
    have HA := Lib.hid (NA.out w1)
    have lB := (HB.out.gr g).lt
    replace HB := Lib.hid (HB.out.gr g)
    replace HG := Lib.hid (HG.out.trans g)
    clear g
    replace HB := Lib.hid (AB.out _ _ _ _ HB.out)
    replace HG := Lib.hid (AG.out _ HG.out)
    go_wp2_with fail
    with_reducible refine (H2 _).out.mono ?_
    rintro e w2 ⟨rfl, g⟩
    have lA := (HA.out.gr g).lt
    have lB := (HB.out.gr g).lt
    replace HA := Lib.hid (HA.out.gr g)
    replace HB := Lib.hid (HB.out.gr g)
    replace HG := Lib.hid (HG.out.trans g)
    clear g
    obtain ⟨⟨a0, a1, a2, a3, a4⟩, -⟩ := own_cells HA.out
    obtain ⟨⟨b0, b1, b2, b3, b4⟩, -⟩ := own_cells HB.out
    replace HA := Lib.hid (AB.out _ _ _ _ HA.out)
    replace HB := Lib.hid (AB.out _ _ _ _ HB.out)
    replace HG := Lib.hid (AG.out _ HG.out)
    go_wp2_with fail
    with_reducible refine (HAL _).out.mono ?_
    rintro e w3 ⟨rfl, g⟩
    clear a0 a1 a2 a3 a4 b0 b1 b2 b3 b4 lA lB HAL NA AB AG
    replace HA := Lib.hid (HA.out.gr g)
    replace HB := Lib.hid (HB.out.gr g)
    replace HG := Lib.hid (HG.out.trans g)
    clear g
    obtain ⟨⟨a0, a1, a2, a3, a4⟩, -⟩ := own_cells HA.out
    go_wp2_with fail
    with_reducible refine (H3 _).out.mono ?_
    rintro e w4 ⟨rfl, g⟩
    clear a0 a1 a2 a3 a4
    have GG := Lib.hid ((HG.out.trans g).al (.cells #[.int .i64 0, .bool false, .bool false, .int .i64 0, .int .i64 0] 23))
    clear g
    go_wp2_with fail
    go_ret
    exact ⟨rfl, GG.out⟩)
set_option maxHeartbeats 16000000 in
theorem GrabWaits_ok (hU : wrap64 ((IntKind.u64.wrap now).tmod 1152921504606846976) = U) (hD : wrap64 ((IntKind.u64.wrap more).tmod 1152921504606846976) = D) (hV : wrap64 (U + D) = V)
    (h1 : ∀ w, Calls Try.prog 23 #[ov s t k r o, .int .i64 U] w fun e w' => e = .returned (.tuple #[ov S t k r o, .bool p, .int .i64 0]) ∧ Gr w w')
    (h2 : ∀ w, Calls Try.prog 23 #[ov S t k r o, .int .i64 V] w fun e w' => e = .returned (.tuple #[ov S t k r o, .bool true, .int .i64 0]) ∧ Gr w w')
    (hs : (s = -1 ∧ S = U ∧ p = false ∧ (U != -1) = true) ∨ ((s != -1) = true ∧ S = s ∧ p = true)) (hT : (t || lt) = T)
    (h3 : ∀ w, Calls Try.prog 24 #[ov S t k r o, .int .i64 V, .int .i64 x] w fun e w' => e = .returned (.tuple #[ov S T K R x, .bool q, .int .i64 0]) ∧ Gr w w')
    (h4 : ∀ w, Calls Try.prog 30 #[.int .i64 V, .int .i64 S] w fun e w' => e = .returned (.tuple #[.bool lt, .int .i64 0]) ∧ Gr w w')
    (h5 : ∀ w, Calls Try.prog 24 #[ov S T K R x, .int .i64 V, .int .i64 x] w fun e w' => e = .returned (.tuple #[ov S T K R x, .bool q', .int .i64 0]) ∧ Gr w w') :
    Calls Try.prog 7 #[ov s t k r o, .int .i64 now, .int .i64 more, .int .i64 x] w fun e w' => e = .returned (.bool true) ∧ Gr w w' := by
  have H1 := fun w => Lib.hid (h1 w)
  have H2 := fun w => Lib.hid (h2 w)
  have H3 := fun w => Lib.hid (h3 w)
  have H4 := fun w => Lib.hid (h4 w)
  have H5 := fun w => Lib.hid (h5 w)
  have HAL := fun w => Lib.hid (alive_is w)
  have HNN := own_nn
  have HDF := fun w => own_diff S t k r o w
  have HSM := fun w => own_same S T K R x w
  have HB := Lib.hid (Blk.new w #[.int .i64 s, .bool t, .bool k, .int .i64 r, .int .i64 o] 23)
  have HG := Lib.hid ((Gr.refl w).al (.cells #[.int .i64 s, .bool t, .bool k, .int .i64 r, .int .i64 o] 23))
  have NA := Lib.hid fun (w1 : World) => Blk.new w1 #[.int .i64 S, .bool t, .bool k, .int .i64 r, .int .i64 o] 23
  have AB := Lib.hid fun (w1 : World) (b : Nat) (vs : Array Value) (ty : TypeId) (B : Blk w1 b vs ty) => B.al (.cells #[.int .i64 S, .bool t, .bool k, .int .i64 r, .int .i64 o] 23)
  have AG := Lib.hid fun (w1 : World) (B : Gr w w1) => B.al (.cells #[.int .i64 S, .bool t, .bool k, .int .i64 r, .int .i64 o] 23)
  have NC := Lib.hid fun (w1 : World) => Blk.new w1 #[.int .i64 S, .bool T, .bool K, .int .i64 R, .int .i64 x] 23
  have CB := Lib.hid fun (w1 : World) (b : Nat) (vs : Array Value) (ty : TypeId) (B : Blk w1 b vs ty) => B.al (.cells #[.int .i64 S, .bool T, .bool K, .int .i64 R, .int .i64 x] 23)
  have CG := Lib.hid fun (w1 : World) (B : Gr w w1) => B.al (.cells #[.int .i64 S, .bool T, .bool K, .int .i64 R, .int .i64 x] 23)
  clear h1 h2 h3 h4 h5
  have ht : (t = false ∧ T = lt) ∨ (t = true ∧ T = true) := by
    rw [← hT]; cases t <;> simp
  clear hT
  rcases hs with ⟨rfl, rfl, rfl, hn⟩ | ⟨hn, rfl, rfl⟩ <;> rcases ht with ⟨rfl, rfl⟩ | ⟨rfl, rfl⟩
  all_goals (
    go_enter Try.func7, Try.ntmps7
    go_wp2_with fail
    with_reducible refine (H1 _).out.mono ?_
    rintro e w1 ⟨rfl, g⟩
    have HA := Lib.hid (NA.out w1)
    have lB := (HB.out.gr g).lt
    replace HB := Lib.hid (HB.out.gr g)
    replace HG := Lib.hid (HG.out.trans g)
    clear g
    replace HB := Lib.hid (AB.out _ _ _ _ HB.out)
    replace HG := Lib.hid (AG.out _ HG.out)
    go_wp2_with fail
    with_reducible refine (H2 _).out.mono ?_
    rintro e w2 ⟨rfl, g⟩
    have lA := (HA.out.gr g).lt
    have lB := (HB.out.gr g).lt
    replace HA := Lib.hid (HA.out.gr g)
    replace HB := Lib.hid (HB.out.gr g)
    replace HG := Lib.hid (HG.out.trans g)
    clear g
    obtain ⟨⟨a0, a1, a2, a3, a4⟩, -⟩ := own_cells HA.out
    obtain ⟨⟨b0, b1, b2, b3, b4⟩, -⟩ := own_cells HB.out
    replace HA := Lib.hid (AB.out _ _ _ _ HA.out)
    replace HB := Lib.hid (AB.out _ _ _ _ HB.out)
    replace HG := Lib.hid (AG.out _ HG.out)
    go_wp2_with fail
    with_reducible refine (HAL _).out.mono ?_
    rintro e w3 ⟨rfl, g⟩
    clear a0 a1 a2 a3 a4 b0 b1 b2 b3 b4 lA lB HAL NA AB AG
    replace HA := Lib.hid (HA.out.gr g)
    replace HB := Lib.hid (HB.out.gr g)
    replace HG := Lib.hid (HG.out.trans g)
    clear g
    obtain ⟨⟨a0, a1, a2, a3, a4⟩, -⟩ := own_cells HA.out
    go_wp2_with fail
    with_reducible refine (H3 _).out.mono ?_
    rintro e w4 ⟨rfl, g⟩
    clear a0 a1 a2 a3 a4
    have HC := Lib.hid (NC.out w4)
    have lA := (HA.out.gr g).lt
    replace HA := Lib.hid (HA.out.gr g)
    replace HB := Lib.hid (HB.out.gr g)
    replace HG := Lib.hid (HG.out.trans g)
    clear g
    obtain ⟨⟨a0, a1, a2, a3, a4⟩, -⟩ := own_cells HA.out
    replace HA := Lib.hid (CB.out _ _ _ _ HA.out)
    replace HB := Lib.hid (CB.out _ _ _ _ HB.out)
    replace HG := Lib.hid (CG.out _ HG.out)
    go_wp2_with fail
    with_reducible refine (H4 _).out.mono ?_
    rintro e w5 ⟨rfl, g⟩
    clear a0 a1 a2 a3 a4 lA
    replace HA := Lib.hid (HA.out.gr g)
    replace HB := Lib.hid (HB.out.gr g)
    replace HC := Lib.hid (HC.out.gr g)
    replace HG := Lib.hid (HG.out.trans g)
    clear g
    obtain ⟨⟨c0, c1, c2, c3, c4⟩, -⟩ := own_cells HC.out
    go_wp2_with fail
    with_reducible refine (H5 _).out.mono ?_
    rintro e w6 ⟨rfl, g⟩
    clear c0 c1 c2 c3 c4
    have lA := (HA.out.gr g).lt
    have lB := (HB.out.gr g).lt
    have lC := (HC.out.gr g).lt
    replace HA := Lib.hid (HA.out.gr g)
    replace HB := Lib.hid (HB.out.gr g)
    replace HC := Lib.hid (HC.out.gr g)
    replace HG := Lib.hid (HG.out.trans g)
    clear g
    obtain ⟨⟨a0, a1, a2, a3, a4⟩, -⟩ := own_cells HA.out
    obtain ⟨⟨b0, b1, b2, b3, b4⟩, -⟩ := own_cells HB.out
    obtain ⟨⟨c0, c1, c2, c3, c4⟩, -⟩ := own_cells HC.out
    replace HG := Lib.hid (CG.out _ HG.out)
    go_wp2_with fail
    go_ret
    exact ⟨by simp, HG.out⟩)
end
theorem GrabWaits_walk (w : World) (s : Int) (t k : Bool) (r o : Int) (hs : P14.B64 s) (hr : P14.B64 r) (ho : P14.B64 o) (now : Int) (hnow : -9223372036854775808 ≤ now ∧ now ≤ 9223372036854775807) (more : Int) (hmore : -9223372036854775808 ≤ more ∧ more ≤ 9223372036854775807) (x : Int) (hx : -9223372036854775808 ≤ x ∧ x ≤ 9223372036854775807) :
    Calls Try.prog 7 #[ov s t k r o, .int .i64 now, .int .i64 more, .int .i64 x] w fun e w' => e = .returned (.bool true) ∧ Gr w w' := by
  obtain ⟨U, hU⟩ : ∃ U, wrap64 ((IntKind.u64.wrap now).tmod 1152921504606846976) = U := ⟨_, rfl⟩
  obtain ⟨D, hD⟩ : ∃ D, wrap64 ((IntKind.u64.wrap more).tmod 1152921504606846976) = D := ⟨_, rfl⟩
  have bU := cut60 now
  have bD := cut60 more
  rw [hU] at bU
  rw [hD] at bD
  obtain ⟨V, hV⟩ : ∃ V, wrap64 (U + D) = V := ⟨_, rfl⟩
  have eV : V = U + D := by rw [← hV]; unfold wrap64; omega
  have tU : Tm U := by unfold P4.Tm; omega
  have tV : Tm V := by unfold P4.Tm; omega
  by_cases h : OkS s r ∧ OkW o
  · obtain ⟨a, b, c, n, e, hn⟩ := P3.pw_of h.2
    obtain ⟨S, hS⟩ : ∃ S, snc s U = S := ⟨_, rfl⟩
    have hcase : (s = -1 ∧ S = U) ∨ (s ≠ -1 ∧ S = s) := by
      rw [← hS]; unfold snc
      by_cases h1 : s = -1
      · exact .inl ⟨h1, if_pos h1⟩
      · exact .inr ⟨h1, if_neg h1⟩
    have tS : Tm S := by
      rcases hcase with ⟨_, h2⟩ | ⟨h1, h2⟩
      · rw [h2]; exact tU
      · rw [h2]; exact h.1.1.resolve_left h1
    have nS : S ≠ -1 := by unfold P4.Tm at tS; omega
    have okS : OkS S r := ⟨.inr tS, h.1.2⟩
    have hSV : snc S V = S := by unfold snc; rw [if_neg nS]
    have h1 : ∀ w, Calls Try.prog 23 #[ov s t k r o, .int .i64 U] w fun e w' => e = .returned (.tuple #[ov S t k r o, .bool (decide (S = s)), .int .i64 0]) ∧ Gr w w' := fun w =>
      Sleep_ok fun W => by rw [e, ← hS]; exact asleep_ok h.1 hn tU
    have h2 : ∀ w, Calls Try.prog 23 #[ov S t k r o, .int .i64 V] w fun e w' => e = .returned (.tuple #[ov S t k r o, .bool true, .int .i64 0]) ∧ Gr w w' := fun w => by
      have q := Sleep_ok (s := S) (t := t) (k := k) (r := r) (o := o) (u := V) (S := S) (w := w) fun W => by
        have q := asleep_ok (s := S) (t := t) (k := k) (a := a) (b := b) (c := c) (u := V) (w := W) okS hn tV
        rw [hSV, ← e] at q
        exact q
      simpa using q
    have hss : (s = -1 ∧ S = U ∧ decide (S = s) = false ∧ (U != -1) = true) ∨ ((s != -1) = true ∧ S = s ∧ decide (S = s) = true) := by
      rcases hcase with ⟨q1, q2⟩ | ⟨q1, q2⟩
      · refine .inl ⟨q1, q2, decide_eq_false (by omega), ?_⟩
        simp; omega
      · exact .inr ⟨by simp [q1], q2, by simp [q2]⟩
    by_cases hw : OkW x
    · have h4 : ∀ w, Calls Try.prog 30 #[.int .i64 V, .int .i64 S] w fun e w' => e = .returned (.tuple #[.bool (ltB S V), .int .i64 0]) ∧ Gr w w' := fun w =>
        P4.Late_is (a := S) (b := V) (r := P4.gap S V) (s := 0) (.inl ⟨tS, tV, rfl, rfl⟩) _ (by simp [ltB, nS]) w
      have hTT : ((t || ltB S V) || ltB S V) = (t || ltB S V) := by cases t <;> simp
      obtain ⟨a2, b2, c2, n2, rfl, hn2⟩ := P3.pw_of hw
      cases c2
      · exact GrabWaits_ok hU hD hV h1 h2 hss rfl (fun w => Wake_ok fun W => woken_back okS h.2 tV hn2 rfl) h4 (fun w => Wake_ok fun W => woken_back ⟨.inr tS, by decide, by decide⟩ hw tV hn2 hTT)
      · exact GrabWaits_ok hU hD hV h1 h2 hss rfl (fun w => Wake_ok fun W => woken_handed okS h.2 tV hn2 rfl) h4 (fun w => Wake_ok fun W => woken_handed okS hw tV hn2 hTT)
    · exact GrabWaits_word hU hD hV h1 h2 hss fun w => Wake_no fun W => woken_word okS h.2 tV hw rfl
  · exact GrabWaits_bad hU hD fun w => Sleep_no (y := 1) (by decide) fun W => asleep_bad h
set_option maxRecDepth 100000 in
theorem GrabWaits_lifted (os : Os) (started : os.Started) (H : Type) (enc : TypeId × Value → H) :
    ReturnsInHanded {} Try.checked os 7 .any (Rows.grabWaitsSpec.pre6 enc Try.prog Try.f7 Rows.grabWaitsRow.domain false) (Rows.grabWaitsSpec.post enc Try.prog Try.f7 false true false false) := by
  refine returnsInHanded_of_change (C := Try.checked) own started (by kernel_rfl) Try.func7
    (ChangeSpec.witness6 (enc := enc) (C := Try.checked) false ⟨#[], #[.agg #[.int .i64 0, .bool false, .bool false, .int .i64 0, .int .i64 0], .int .i64 0, .int .i64 0, .int .i64 0], []⟩ 8 (by kernel_rfl) (by kernel_rfl) (by kernel_rfl) (by kernel_rfl)) ?_
  intro W base args ds gs before hval0 hW hcnd _
  have hval : ∀ (j : Nat) t v, Try.f7.params[j]? = some t → args[j]? = some v → Value.okWide Try.prog W .any base t v := hval0
  have hW' := hW
  obtain ⟨p, q, hA0, hV, rfl, hfz, hnd⟩ := hW
  have hA : DataW.TrodAll enc Try.prog W 0 (fun _ => true) true Try.f7.params.toList args.toList ds p := hA0
  rw [Try.params7] at hA hval
  have hK := hA
  obtain ⟨v0, vs0, d0, ds0, p0, q0, hargs, rfl, hp, h0, r0⟩ := trodAll_cons hA
  obtain ⟨v1, vs1, d1, ds1, p1, q1, rfl, rfl, rfl, h1, r1⟩ := trodAll_cons r0
  obtain ⟨v2, vs2, d2, ds2, p2, q2, rfl, rfl, rfl, h2, r2⟩ := trodAll_cons r1
  obtain ⟨v3, vs3, d3, ds3, p3, q3, rfl, rfl, rfl, h3, r3⟩ := trodAll_cons r2
  obtain ⟨rfl, rfl, rfl⟩ := trodAll_nil r3
  obtain rfl : args = #[v0, v1, v2, v3] := by cases args; simp_all
  obtain ⟨rfl, rfl⟩ := trodVars_none hV
  obtain ⟨os0, ot0, ok0, or0, oo0, rfl, hs0, hr0, ho0⟩ := P14.open_own (hval 0 23 v0 rfl rfl) h0
  obtain ⟨a1, rfl, rfl, rfl, w1⟩ := open_int Try.underlying3 (hval 1 3 v1 rfl rfl) h1
  obtain ⟨a2, rfl, rfl, rfl, w2⟩ := open_int Try.underlying3 (hval 2 3 v2 rfl rfl) h2
  obtain ⟨a3, rfl, rfl, rfl, w3⟩ := open_int Try.underlying3 (hval 3 3 v3 rfl rfl) h3
  clear hA0 hval0
  refine (GrabWaits_walk W os0 ot0 ok0 or0 oo0 hs0 hr0 ho0 a1 (wfb w1) a2 (wfb w2) a3 (wfb w3)).mono fun e W' ⟨he, hg⟩ => ?_
  subst he
  exact ⟨_, rfl, post_below (pa := p) (pv := []) hW' (fun _ _ _ => (trodAll_cons_mk (shut_bool Try.underlying4 _) trodAll_mk0))
    (fun sp hs => trodAll_stays laidOut hg sp (by kernel_rfl) hK (fun x hx => hW'.lt x (List.mem_append_left _ hx)) (fun x hx => hs x (List.mem_append_left _ hx))) (fun _ _ => rfl) rfl
    hg (ok_one (by kernel_rfl) rfl (okWide_bool_mk Try.underlying4 _))⟩

theorem GrabWaits_over : Rows.grabWaitsRow.holds Try.pinned (OpenSpec.ofChange Rows.grabWaitsSpec) :=
  OpenClaim.holds_of_wide 7 Try.f7 rfl rfl rfl rfl rfl rfl rfl ⟨rfl, rfl, rfl, rfl, rfl⟩ rfl rfl rfl rfl rfl (by kernel_rfl) Try.func7 (by kernel_rfl)
    (of_decide_eq_true (by kernel_rfl)) (by unfold Func.isWrapper; first | (rw [if_pos (by decide +kernel)]; kernel_rfl) | (rw [if_neg (by decide +kernel)]; exact ⟨rfl, rfl⟩))
    (fun os started H enc _ => GrabWaits_lifted os started H enc)

/-- The statement. -/
theorem GrabWaits_holds : Rows.GrabWaitsSaid :=
  GrabWaits_over
#print axioms GrabWaits_holds
end Go.Proofs.Ytddgihbgdlnlbaa
