/-
  Proved: deadboltlaw14.GrabHanded returns true at every input (who is handed a mutex leaves it locked, not woken, with one less who waits, and clears starving just where he does not starve, or is the last one). No condition.
-/
import Derived.Test.YtddgihbgdlnlbaaGrabAlive
import Derived.Test.YtddgihbgdlnlbaaOpenOwn
import Derived.Test.YtddgihbgdlnlbaaEnds
import Derived.Deep.DeepCutAuto
namespace Go.Proofs.Ytddgihbgdlnlbaa
open Go.ChangeShapes Go.WideShapes Go.ChangeAt Go.RowKit Go.Deep
set_option linter.unusedVariables false
set_option linter.unusedSimpArgs false

open P14 P3 P4

section
variable {s r : Int} {t k a b c : Bool} {n u o x y : Int} {w : World}
set_option maxHeartbeats 2000000 in
theorem GrabHanded_no (hy : (y != 0) = true) (H : ∀ w, Hid (Calls Try.prog 12 #[ov s t k r o] w fun e w' => e = .returned (.tuple #[.int .i64 0, .int .i64 y]) ∧ Gr w w')) :
    Calls Try.prog 6 #[ov s t k r o] w fun e w' => e = .returned (.bool true) ∧ Gr w w' := by
  have AL := fun w => Lib.hid (alive_is w)
  have N0 := Blk.new w #[.int .i64 s, .bool t, .bool k, .int .i64 r, .int .i64 o] 23
  have G0 := (Gr.refl w).al (.cells #[.int .i64 s, .bool t, .bool k, .int .i64 r, .int .i64 o] 23)
  go_enter Try.func6, Try.ntmps6
  go_wp2_with fail
  with_reducible refine (H _).out.mono ?_
  rintro e w1 ⟨rfl, g1⟩
  go_wp2_with fail
  with_reducible refine (AL _).out.mono ?_
  rintro e w2 ⟨rfl, g2⟩
  go_wp2_with fail
  go_ret
  exact ⟨rfl, (G0.trans g1).trans g2⟩
set_option maxHeartbeats 4000000 in
theorem GrabHanded_ok (h : OkS s r) (hn : OkN n) (h0 : 0 < n) :
    Calls Try.prog 6 #[ov s t k r (pw false false c n)] w fun e w' => e = .returned (.bool true) ∧ Gr w w' := by
  have AL := fun w => Lib.hid (alive_is w)
  obtain ⟨C, hC⟩ : ∃ C, chg t n = C := ⟨_, rfl⟩
  have H1 := fun w => Lib.hid (Handed_yes (t := t) (k := k) (c := c) (w := w) h hn h0)
  have H2 := fun w => Lib.hid (Handed_yes (t := t) (k := k) (c := true) (w := w) h hn h0)
  have U2 := fun w => Lib.hid (P3.Unpack_ok false false true n hn w)
  have hm : OkN (n - 1) := by unfold OkN at *; omega
  have hor := P3.or_4 (a := false) (b := false) (c := c) (n := n) (by unfold OkN at hn; omega)
  obtain ⟨m, hm1⟩ : ∃ m, n - 1 = m := ⟨_, rfl⟩
  have hwm : wrap64 (n - 1) = m := by rw [← hm1]; unfold OkN at hn; unfold wrap64; omega
  have hk : ∃ d, wrap64 (pw false false true n + C) = pw true false d m ∧ d = (t && decide (1 < n)) ∧ ((t = false ∧ d = false) ∨ (t = true ∧ decide (1 < n) = false ∧ d = false) ∨ (t = true ∧ decide (1 < n) = true ∧ d = true)) := by
    unfold OkN at hn
    rw [← hC, ← hm1]
    unfold chg
    cases t
    · refine ⟨false, ?_, rfl, .inl ⟨rfl, rfl⟩⟩
      simp [pw, b1]
      unfold wrap64; omega
    · by_cases h1 : n = 1
      · refine ⟨false, ?_, by simp [h1], .inr (.inl ⟨rfl, by simp [h1], rfl⟩)⟩
        subst h1
        simp [pw, b1]
        unfold wrap64; omega
      · have h2 : 1 < n := by omega
        refine ⟨true, ?_, by simp [h2], .inr (.inr ⟨rfl, by simp [h2], rfl⟩)⟩
        simp [pw, b1, h1]
        unfold wrap64; omega
  obtain ⟨d, hd, -, hk⟩ := hk
  have U3 := fun w => Lib.hid (P3.Unpack_ok true false d m (hm1 ▸ hm) w)
  rw [hC] at H1 H2
  generalize pw false false c n = v at *
  generalize pw false false true n = v2 at *
  generalize pw true false d m = v3 at *
  have N0 := Blk.new w #[.int .i64 s, .bool t, .bool k, .int .i64 r, .int .i64 v] 23
  have G0 := (Gr.refl w).al (.cells #[.int .i64 s, .bool t, .bool k, .int .i64 r, .int .i64 v] 23)
  clear h hn h0 hC hm hm1
  rcases hk with ⟨rfl, rfl⟩ | ⟨rfl, h1, rfl⟩ | ⟨rfl, h1, rfl⟩
  all_goals (
    go_enter Try.func6, Try.ntmps6
    go_wp2_with fail
    with_reducible refine (H1 _).out.mono ?_
    rintro e w1 ⟨rfl, g1⟩
    have B0 := N0.gr g1
    obtain ⟨⟨q0, q1, q2, q3, q4⟩, z0, z1, z2, z3, z4⟩ := own_cells B0
    have B1 := B0.set 4 (.int .i64 v2)
    have G1 := (G0.trans g1).st (p := ⟨w.heap.size, 4, none⟩) (Nat.le_refl _) (.int .i64 v2)
    clear g1 B0
    go_upto_region 5 with fail
    clear q0 q1 q2 q3 q4 z0 z1 z2 z3 z4
    generalize w1.setCell ⟨w.heap.size, 4, none⟩ (.int .i64 v2) = W at B1 G1 ⊢
    obtain ⟨⟨q0, q1, q2, q3, q4⟩, -⟩ := own_cells B1
    go_wp2_with fail
    with_reducible refine (H2 _).out.mono ?_
    rintro e w2 ⟨rfl, g2⟩
    have l2 := (B1.gr g2).lt
    obtain ⟨⟨p0, p1, p2, p3, p4⟩, -⟩ := own_cells (B1.gr g2)
    clear q0 q1 q2 q3 q4
    go_wp2_with fail
    with_reducible refine (U2 _).out.mono ?_
    rintro e w3 ⟨rfl, g3⟩
    have l3 := ((B1.gr g2).gr g3).lt
    obtain ⟨⟨q0, q1, q2, q3, q4⟩, -⟩ := own_cells ((B1.gr g2).gr g3)
    clear p0 p1 p2 p3 p4
    go_wp2_with fail
    with_reducible refine (U3 _).out.mono ?_
    rintro e w4 ⟨rfl, g4⟩
    go_wp2_with fail
    with_reducible refine (AL _).out.mono ?_
    rintro e w5 ⟨rfl, g5⟩
    have BB := ((((B1.gr g2).gr g3).al (.cells #[.bool false, .bool false, .bool true, .int .i64 n] 43)).gr g4).al (.cells #[.bool true, .bool false, .bool _, .int .i64 m] 43) |>.gr g5
    have BA := (((Blk.new w3 #[.bool false, .bool false, .bool true, .int .i64 n] 43).gr g4).al _).gr g5
    have BC := (Blk.new w4 _ _).gr g5
    have GG := Lib.hid ((((((G1.trans g2).trans g3).al _).trans g4).al _).trans g5)
    have x1 := (BB.at_ (k := 1) rfl).1
    have a3 := (BA.at_ (k := 3) rfl).1
    have b0 := (BC.at_ (k := 0) rfl).1
    have b1 := (BC.at_ (k := 1) rfl).1
    have b2 := (BC.at_ (k := 2) rfl).1
    have b3 := (BC.at_ (k := 3) rfl).1
    clear BB BA BC q0 q1 q2 q3 q4 g2 g3 g4 g5 B1
    go_wp2_with fail
    go_ret
    exact ⟨rfl, GG.out⟩)
theorem GrabHanded_walk (w : World) (s : Int) (t k : Bool) (r o : Int) (hs : P14.B64 s) (hr : P14.B64 r) (ho : P14.B64 o) :
    Calls Try.prog 6 #[ov s t k r o] w fun e w' => e = .returned (.bool true) ∧ Gr w w' := by
  by_cases h : OkS s r ∧ OkW o
  · obtain ⟨a, b, c, n, rfl, hn⟩ := P3.pw_of h.2
    by_cases hb : a = false ∧ b = false ∧ 0 < n
    · obtain ⟨rfl, rfl, h0⟩ := hb
      exact GrabHanded_ok h.1 hn h0
    · exact GrabHanded_no (y := 12) (by decide) fun w => Lib.hid (Handed_broken h.1 hn hb)
  · exact GrabHanded_no (y := 1) (by decide) fun w => Lib.hid (Handed_bad h)
end
set_option maxRecDepth 100000 in
theorem GrabHanded_lifted (os : Os) (started : os.Started) (H : Type) (enc : TypeId × Value → H) :
    ReturnsInHanded {} Try.checked os 6 .any (Rows.grabHandedSpec.pre6 enc Try.prog Try.f6 Rows.grabHandedRow.domain false) (Rows.grabHandedSpec.post enc Try.prog Try.f6 false true false false) := by
  refine returnsInHanded_of_change (C := Try.checked) own started (by kernel_rfl) Try.func6
    (ChangeSpec.witness6 (enc := enc) (C := Try.checked) false ⟨#[], #[.agg #[.int .i64 0, .bool false, .bool false, .int .i64 0, .int .i64 0]], []⟩ 8 (by kernel_rfl) (by kernel_rfl) (by kernel_rfl) (by kernel_rfl)) ?_
  intro W base args ds gs before hval0 hW hcnd _
  have hval : ∀ (j : Nat) t v, Try.f6.params[j]? = some t → args[j]? = some v → Value.okWide Try.prog W .any base t v := hval0
  have hW' := hW
  obtain ⟨p, q, hA0, hV, rfl, hfz, hnd⟩ := hW
  have hA : DataW.TrodAll enc Try.prog W 0 (fun _ => true) true Try.f6.params.toList args.toList ds p := hA0
  rw [Try.params6] at hA hval
  have hK := hA
  obtain ⟨v0, vs0, d0, ds0, p0, q0, hargs, rfl, hp, h0, r0⟩ := trodAll_cons hA
  obtain ⟨rfl, rfl, rfl⟩ := trodAll_nil r0
  obtain rfl : args = #[v0] := by cases args; simp_all
  obtain ⟨rfl, rfl⟩ := trodVars_none hV
  obtain ⟨s0, t0, k0, r0, o0, rfl, hs0, hr0, ho0⟩ := P14.open_own (hval 0 23 v0 rfl rfl) h0
  clear hA0 hval0
  refine (GrabHanded_walk W s0 t0 k0 r0 o0 hs0 hr0 ho0).mono fun e W' ⟨he, hg⟩ => ?_
  subst he
  exact ⟨_, rfl, post_below (pa := p) (pv := []) hW' (fun _ _ _ => (trodAll_cons_mk (shut_bool Try.underlying4 _) trodAll_mk0))
    (fun sp hs => trodAll_stays laidOut hg sp (by kernel_rfl) hK (fun x hx => hW'.lt x (List.mem_append_left _ hx)) (fun x hx => hs x (List.mem_append_left _ hx))) (fun _ _ => rfl) rfl
    hg (ok_one (by kernel_rfl) rfl (okWide_bool_mk Try.underlying4 _))⟩

theorem GrabHanded_over : Rows.grabHandedRow.holds Try.pinned (OpenSpec.ofChange Rows.grabHandedSpec) :=
  OpenClaim.holds_of_wide 6 Try.f6 rfl rfl rfl rfl rfl rfl rfl ⟨rfl, rfl, rfl, rfl, rfl⟩ rfl rfl rfl rfl rfl (by kernel_rfl) Try.func6 (by kernel_rfl)
    (of_decide_eq_true (by kernel_rfl)) (by unfold Func.isWrapper; first | (rw [if_pos (by decide +kernel)]; kernel_rfl) | (rw [if_neg (by decide +kernel)]; exact ⟨rfl, rfl⟩))
    (fun os started H enc _ => GrabHanded_lifted os started H enc)

/-- The statement. -/
theorem GrabHanded_holds : Rows.GrabHandedSaid :=
  GrabHanded_over
#print axioms GrabHanded_holds
end Go.Proofs.Ytddgihbgdlnlbaa
