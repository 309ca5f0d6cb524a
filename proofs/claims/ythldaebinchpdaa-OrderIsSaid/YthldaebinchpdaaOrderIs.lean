/-
  Proved: deadboltlaw05.OrderIs returns true at every input (of two floats one comes ahead, or both are alike, of one class; the order is transitive; nothing comes behind what is no number). No condition.
-/
import Derived.Test.YthldaebinchpdaaOrder
import Derived.Test.YthldaebinchpdaaEnds
namespace Go.Proofs.Ythldaebinchpdaa
open Go.ChangeShapes Go.WideShapes Go.ChangeAt Go.RowKit
set_option linter.unusedVariables false

theorem f64wf {b : Nat} (h : (Lit.float .f64 b).wf = true) : F64 b := by simpa [Lit.wf, F64] using h

/-- What is known of a float of class x: its tests against itself and against 0. -/
def Tst (a : Nat) (x : Int) : Prop :=
  (x = 6 ∧ (ord a a == some .eq) = false ∧ (ord a a != some .eq) = true) ∨
  ((ord a a == some .eq) = true ∧ (ord a a != some .eq) = false ∧ ((x = 1 ∧ (ord a 0 == some .lt) = true) ∨ (x = 4 ∧ (ord a 0 == some .gt) = true) ∨ (x ≠ 1 ∧ x ≠ 4 ∧ x ≠ 6)))
/-- The cases that can be. -/
def Cs (a b : Nat) (x y : Int) (AB BA BC AC : Bool) : Prop :=
  (AB = true ∧ BA = false ∧ x ≤ y ∧ x < 6 ∧ ((BC = true ∧ AC = true) ∨ BC = false)) ∨
  (AB = false ∧ BA = true ∧ (ord a b == some .lt) = false) ∨
  (AB = false ∧ BA = false ∧ x = y ∧ (ord a b == some .lt) = false)

set_option maxHeartbeats 8000000 in
set_option maxRecDepth 100000 in
theorem is_run (w : World) (a b c : Nat) (x y : Int) (AB BA BC AC : Bool) (hx : 0 ≤ x ∧ x ≤ 6) (ht : Tst a x) (hc : Cs a b x y AB BA BC AC)
    (k1 : ∀ w, Calls Try.prog 12 #[.float .f64 a, .float .f64 b] w fun e w' => e = .returned (.bool AB) ∧ w' = w)
    (k2 : ∀ w, Calls Try.prog 12 #[.float .f64 b, .float .f64 a] w fun e w' => e = .returned (.bool BA) ∧ w' = w)
    (k3 : ∀ w, Calls Try.prog 12 #[.float .f64 b, .float .f64 c] w fun e w' => e = .returned (.bool BC) ∧ w' = w)
    (k4 : ∀ w, Calls Try.prog 12 #[.float .f64 a, .float .f64 c] w fun e w' => e = .returned (.bool AC) ∧ w' = w)
    (k5 : ∀ w, Calls Try.prog 12 #[.float .f64 a, .float .f64 a] w fun e w' => e = .returned (.bool false) ∧ w' = w)
    (k6 : ∀ w, Calls Try.prog 10 #[.float .f64 a] w fun e w' => e = .returned (.int .i64 x) ∧ w' = w)
    (k7 : ∀ w, Calls Try.prog 10 #[.float .f64 b] w fun e w' => e = .returned (.int .i64 y) ∧ w' = w) :
    Calls Try.prog 4 #[.float .f64 a, .float .f64 b, .float .f64 c] w fun e w' => e = .returned (.bool true) ∧ Gr w w' := by
  have c1 := fun w => Lib.hid (k1 w)
  have c2 := fun w => Lib.hid (k2 w)
  have c3 := fun w => Lib.hid (k3 w)
  have c4 := fun w => Lib.hid (k4 w)
  have c5 := fun w => Lib.hid (k5 w)
  have c6 := fun w => Lib.hid (k6 w)
  have c7 := fun w => Lib.hid (k7 w)
  clear k1 k2 k3 k4 k5 k6 k7
  go_enter Try.func4, Try.ntmps4
  go_wp2_with fail
  refine (c1 _).out.mono ?_
  rintro e w1 ⟨rfl, rfl⟩
  go_wp2_with fail
  refine (c2 _).out.mono ?_
  rintro e w1 ⟨rfl, rfl⟩
  go_wp2_with fail
  refine (c3 _).out.mono ?_
  rintro e w1 ⟨rfl, rfl⟩
  go_wp2_with fail
  refine (c4 _).out.mono ?_
  rintro e w1 ⟨rfl, rfl⟩
  go_wp2_with fail
  refine (c6 _).out.mono ?_
  rintro e w1 ⟨rfl, rfl⟩
  go_wp2_with fail
  refine (c7 _).out.mono ?_
  rintro e w1 ⟨rfl, rfl⟩
  clear c1 c2 c3 c4 c6 c7
  rcases hc with ⟨rfl, rfl, h1, h2, h3⟩ | ⟨rfl, rfl, o1⟩ | ⟨rfl, rfl, rfl, o1⟩
  · rcases ht with ⟨rfl, _⟩ | ⟨t1, t2, ht⟩
    · omega
    rcases h3 with ⟨rfl, rfl⟩ | rfl
    all_goals (
      rcases ht with ⟨rfl, t3⟩ | ⟨rfl, t3⟩ | ⟨t3, t4, t5⟩
      all_goals (
        go_wp2_with fail
        refine (c5 _).out.mono ?_
        rintro e w1 ⟨rfl, rfl⟩
        go_wp2_with fail
        refine (alive_ok _).mono ?_
        rintro e w1 ⟨rfl, rfl⟩
        go_wp2_with fail
        all_goals (
          go_ret
          first
            | exact ⟨rfl, Gr.refl _⟩
            | exact ⟨congrArg _ (congrArg _ (bne_iff_ne.2 t5)), Gr.refl _⟩)))
  · rcases ht with ⟨rfl, t1, t2⟩ | ⟨t1, t2, ht⟩
    · go_wp2_with fail
      refine (c5 _).out.mono ?_
      rintro e w1 ⟨rfl, rfl⟩
      go_wp2_with fail
      refine (alive_ok _).mono ?_
      rintro e w1 ⟨rfl, rfl⟩
      go_wp2_with fail
      all_goals (
        go_ret
        exact ⟨rfl, Gr.refl _⟩)
    · rcases ht with ⟨rfl, t3⟩ | ⟨rfl, t3⟩ | ⟨t3, t4, t5⟩
      all_goals (
        go_wp2_with fail
        refine (c5 _).out.mono ?_
        rintro e w1 ⟨rfl, rfl⟩
        go_wp2_with fail
        refine (alive_ok _).mono ?_
        rintro e w1 ⟨rfl, rfl⟩
        go_wp2_with fail
        all_goals (
          go_ret
          first
            | exact ⟨rfl, Gr.refl _⟩
            | exact ⟨congrArg _ (congrArg _ (bne_iff_ne.2 t5)), Gr.refl _⟩))
  · rcases ht with ⟨rfl, t1, t2⟩ | ⟨t1, t2, ht⟩
    · go_wp2_with fail
      refine (c5 _).out.mono ?_
      rintro e w1 ⟨rfl, rfl⟩
      go_wp2_with fail
      refine (alive_ok _).mono ?_
      rintro e w1 ⟨rfl, rfl⟩
      go_wp2_with fail
      all_goals (
        go_ret
        exact ⟨rfl, Gr.refl _⟩)
    · rcases ht with ⟨rfl, t3⟩ | ⟨rfl, t3⟩ | ⟨t3, t4, t5⟩
      all_goals (
        go_wp2_with fail
        refine (c5 _).out.mono ?_
        rintro e w1 ⟨rfl, rfl⟩
        go_wp2_with fail
        refine (alive_ok _).mono ?_
        rintro e w1 ⟨rfl, rfl⟩
        go_wp2_with fail
        all_goals (
          go_ret
          first
            | exact ⟨rfl, Gr.refl _⟩
            | exact ⟨congrArg _ (congrArg _ (bne_iff_ne.2 t5)), Gr.refl _⟩))

theorem tst_of {a : Nat} (ha : F64 a) : Tst a (clk (key a)) := by
  have hb := key_b a
  by_cases c6 : 9218868437227405312 < key a
  · exact .inl ⟨clk6 c6, b_self ha false (by simp; omega), b_nself ha true (by simp; omega)⟩
  refine .inr ⟨b_self ha true (by simp; omega), b_nself ha false (by simp; omega), ?_⟩
  by_cases c1 : clk (key a) = 1
  · refine .inl ⟨c1, b_lt0 ha true ?_⟩
    unfold clk at c1
    repeat' split at c1
    all_goals (simp; omega)
  by_cases c4 : clk (key a) = 4
  · refine .inr (.inl ⟨c4, b_gt0 ha true ?_⟩)
    unfold clk at c4
    repeat' split at c4
    all_goals (simp; omega)
  refine .inr (.inr ⟨c1, c4, fun h => ?_⟩)
  unfold clk at h
  repeat' split at h
  all_goals omega
theorem nlt {a b : Nat} (ha : F64 a) (hb : F64 b) (h : key b ≤ key a) : (ord a b == some .lt) = false := b_lt ha hb false (by
  simp
  unfold zk
  split <;> split <;> omega)
theorem cs_of {a b c : Nat} (ha : F64 a) (hb : F64 b) : Cs a b (clk (key a)) (clk (key b)) (ahd a b) (ahd b a) (ahd b c) (ahd a c) := by
  rcases Int.lt_trichotomy (key a) (key b) with h | h | h
  · refine .inl ⟨ahd_iff.2 h, ahd_not.2 (by omega), clk_mono (by omega), ?_, ?_⟩
    · have := key_b b
      unfold clk
      repeat' split
      all_goals omega
    · cases hbc : ahd b c
      · exact .inr rfl
      · have := ahd_iff.1 hbc
        exact .inl ⟨rfl, ahd_iff.2 (by omega)⟩
  · exact .inr (.inr ⟨ahd_not.2 (by omega), ahd_not.2 (by omega), by rw [h], nlt ha hb (by omega)⟩)
  · exact .inr (.inl ⟨ahd_not.2 (by omega), ahd_iff.2 h, nlt ha hb (by omega)⟩)
theorem OrderIs_walk (w : World) (a : Nat) (ha : F64 a) (b : Nat) (hb : F64 b) (c : Nat) (hc : F64 c) :
    Calls Try.prog 4 #[.float .f64 a, .float .f64 b, .float .f64 c] w fun e w' => e = .returned (.bool true) ∧ Gr w w' :=
  is_run w a b c (clk (key a)) (clk (key b)) (ahd a b) (ahd b a) (ahd b c) (ahd a c) (clk_b _) (tst_of ha) (cs_of ha hb)
    (Ahead_ok a b ha hb) (Ahead_ok b a hb ha) (Ahead_ok b c hb hc) (Ahead_ok a c ha hc) (fun w => (show ahd a a = false from ahd_not.2 (by omega)) ▸ Ahead_ok a a ha ha w) (Class_ok a ha) (Class_ok b hb)

set_option maxRecDepth 100000 in
theorem OrderIs_lifted (os : Os) (started : os.Started) (H : Type) (enc : TypeId × Value → H) :
    ReturnsInHanded {} Try.checked os 4 .any (Rows.orderIsSpec.pre6 enc Try.prog Try.f4 Rows.orderIsRow.domain false) (Rows.orderIsSpec.post enc Try.prog Try.f4 false true false false) := by
  refine returnsInHanded_of_change (C := Try.checked) own started (by kernel_rfl) Try.func4
    (ChangeSpec.witness6 (enc := enc) (C := Try.checked) false ⟨#[], #[.float .f64 0, .float .f64 0, .float .f64 0], []⟩ 8 (by kernel_rfl) (by kernel_rfl) (by kernel_rfl) (by kernel_rfl)) ?_
  intro W base args ds gs before hval0 hW hcnd _
  have hval : ∀ (j : Nat) t v, Try.f4.params[j]? = some t → args[j]? = some v → Value.okWide Try.prog W .any base t v := hval0
  have hW' := hW
  obtain ⟨p, q, hA0, hV, rfl, hfz, hnd⟩ := hW
  have hA : DataW.TrodAll enc Try.prog W 0 (fun _ => true) true Try.f4.params.toList args.toList ds p := hA0
  rw [Try.params4] at hA hval
  have hK := hA
  obtain ⟨v0, vs0, d0, ds0, p0, q0, hargs, rfl, hp, h0, r0⟩ := trodAll_cons hA
  obtain ⟨v1, vs1, d1, ds1, p1, q1, rfl, rfl, rfl, h1, r1⟩ := trodAll_cons r0
  obtain ⟨v2, vs2, d2, ds2, p2, q2, rfl, rfl, rfl, h2, r2⟩ := trodAll_cons r1
  obtain ⟨rfl, rfl, rfl⟩ := trodAll_nil r2
  obtain rfl : args = #[v0, v1, v2] := by cases args; simp_all
  obtain ⟨rfl, rfl⟩ := trodVars_none hV
  obtain ⟨a0, rfl, rfl, rfl, w0⟩ := open_float Try.underlying22 (hval 0 22 v0 rfl rfl) h0
  obtain ⟨a1, rfl, rfl, rfl, w1⟩ := open_float Try.underlying22 (hval 1 22 v1 rfl rfl) h1
  obtain ⟨a2, rfl, rfl, rfl, w2⟩ := open_float Try.underlying22 (hval 2 22 v2 rfl rfl) h2
  clear hA0 hval0
  refine (OrderIs_walk W a0 (f64wf w0) a1 (f64wf w1) a2 (f64wf w2)).mono fun e W' ⟨he, hg⟩ => ?_
  subst he
  exact ⟨_, rfl, post_below (pa := p) (pv := []) hW' (fun _ _ _ => (trodAll_cons_mk (shut_bool Try.underlying4 _) trodAll_mk0))
    (fun sp hs => trodAll_stays laidOut hg sp (by kernel_rfl) hK (fun x hx => hW'.lt x (List.mem_append_left _ hx)) (fun x hx => hs x (List.mem_append_left _ hx))) (fun _ _ => rfl) rfl
    hg (ok_one (by kernel_rfl) rfl (okWide_bool_mk Try.underlying4 _))⟩

theorem OrderIs_over : Rows.orderIsRow.holds Try.pinned (OpenSpec.ofChange Rows.orderIsSpec) :=
  OpenClaim.holds_of_wide 4 Try.f4 rfl rfl rfl rfl rfl rfl rfl ⟨rfl, rfl, rfl, rfl, rfl⟩ rfl rfl rfl rfl rfl (by kernel_rfl) Try.func4 (by kernel_rfl)
    (of_decide_eq_true (by kernel_rfl)) (by unfold Func.isWrapper; first | (rw [if_pos (by decide +kernel)]; kernel_rfl) | (rw [if_neg (by decide +kernel)]; exact ⟨rfl, rfl⟩))
    (fun os started H enc _ => OrderIs_lifted os started H enc)

/-- The statement. -/
theorem OrderIs_holds : Rows.OrderIsSaid :=
  OrderIs_over
#print axioms OrderIs_holds
end Go.Proofs.Ythldaebinchpdaa
