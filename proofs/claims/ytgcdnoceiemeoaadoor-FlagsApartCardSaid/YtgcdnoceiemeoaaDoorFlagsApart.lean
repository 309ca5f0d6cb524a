/-
  Proved: deadboltlaw03.FlagsApart returns true at every input (two words are the same just if their flags and their texts are; of unlike flags that may be the words are unlike). Condition: the tables of strconv and math/bits start as their texts lay them (the card ties them).
-/
import Derived.Test.YtgcdnoceiemeoaaDoorFlagsParse
import Derived.Test.YtgcdnoceiemeoaaDoorFlagsLaid
import Derived.Test.YtgcdnoceiemeoaaDoorTie
import Derived.Test.YtgcdnoceiemeoaaDoorCards
namespace Go.Proofs.YtgcdnoceiemeoaaDoor
open Go.ChangeShapes Go.WideShapes Go.ChangeAt Go.RowKit
set_option linter.unusedVariables false

/-- Whether flags are the same. -/
def flEq (a b c : Bool) (n : Int) (a' b' c' : Bool) (n' : Int) : Bool := decide (a = a' ∧ b = b' ∧ c = c' ∧ n = n')
theorem run_flags_eql (a b c : Bool) (n : Int) (a' b' c' : Bool) (n' : Int) (w : World) :
    (binOp .eql 23 (.agg #[.bool a, .bool b, .bool c, .int .i64 n]) (.agg #[.bool a', .bool b', .bool c', .int .i64 n'])).run Tryd.prog w = .ok (.bool (flEq a b c n a' b' c' n')) w := by
  by_cases h1 : a = a'
  · by_cases h2 : b = b'
    · by_cases h3 : c = c'
      · by_cases h4 : n = n'
        · have e : flEq a b c n a' b' c' n' = true := by simp [flEq, h1, h2, h3, h4]
          subst h1 h2 h3 h4
          rw [e]
          go_simp
        · have e : flEq a b c n a' b' c' n' = false := by simp [flEq, h4]
          have h5 : (n == n') = false := beq_eq_false_iff_ne.2 h4
          subst h1 h2 h3
          rw [e]
          go_simp
      · have e : flEq a b c n a' b' c' n' = false := by simp [flEq, h3]
        have h5 : (c == c') = false := beq_eq_false_iff_ne.2 h3
        subst h1 h2
        rw [e]
        go_simp
    · have e : flEq a b c n a' b' c' n' = false := by simp [flEq, h2]
      have h5 : (b == b') = false := beq_eq_false_iff_ne.2 h2
      subst h1
      rw [e]
      go_simp
  · have e : flEq a b c n a' b' c' n' = false := by simp [flEq, h1]
    have h5 : (a == a') = false := beq_eq_false_iff_ne.2 h1
    rw [e]
    go_simp
section
variable (v u : Int) (a1 b1 c1 a2 b2 c2 a3 b3 c3 a4 b4 c4 : Bool) (n1 n2 n3 n4 E1 E2 I1 I2 X Y K L : Int) (S1 S2 : ByteArray)
/-- What the program's calls answer in this law. -/
structure ApartIs : Prop where
  u1 : ∀ w, Calls Tryd.prog 8 #[.int .i64 v] w fun e w' => e = .returned (.tuple #[fl a1 b1 c1 n1, .int .i64 E1]) ∧ Gr w w'
  u2 : ∀ w, Calls Tryd.prog 8 #[.int .i64 u] w fun e w' => e = .returned (.tuple #[fl a2 b2 c2 n2, .int .i64 E2]) ∧ Gr w w'
  t1 : ∀ w, Tab w → Calls Tryd.prog 9 #[.int .i64 v] w fun e w' => e = .returned (.tuple #[.string S1, .int .i64 I1]) ∧ Gr w w'
  t2 : ∀ w, Tab w → Calls Tryd.prog 9 #[.int .i64 u] w fun e w' => e = .returned (.tuple #[.string S2, .int .i64 I2]) ∧ Gr w w'
  p3 : ∀ w, Calls Tryd.prog 7 #[fl a3 b3 c3 n3] w fun e w' => e = .returned (.tuple #[.int .i64 X, .int .i64 K]) ∧ Gr w w'
  p4 : ∀ w, Calls Tryd.prog 7 #[fl a4 b4 c4 n4] w fun e w' => e = .returned (.tuple #[.int .i64 Y, .int .i64 L]) ∧ Gr w w'
end
section
variable {v u : Int} {a1 b1 c1 a2 b2 c2 a3 b3 c3 a4 b4 c4 : Bool} {n1 n2 n3 n4 E1 E2 I1 I2 X Y K L : Int} {S1 S2 : ByteArray}
set_option maxHeartbeats 4000000 in
set_option maxRecDepth 100000 in
theorem apart_run (H : ApartIs v u a1 b1 c1 a2 b2 c2 a3 b3 c3 a4 b4 c4 n1 n2 n3 n4 E1 E2 I1 I2 X Y K L S1 S2) (w : World) (ht : Tab w) (B1 B2 : Bool)
    (hfirst : E1 = 1 ∨ (E1 = 0 ∧ E2 = 1) ∨ (E1 = 0 ∧ E2 = 0 ∧ I1 = 0 ∧ I2 = 0 ∧ flEq a1 b1 c1 n1 a2 b2 c2 n2 = B1 ∧ (v == u) = B1 ∧ (S1.toList == S2.toList) = B1))
    (hlast : K = 1 ∨ (K = 0 ∧ L = 1) ∨ (K = 0 ∧ L = 0 ∧ flEq a3 b3 c3 n3 a4 b4 c4 n4 = B2 ∧ (X == Y) = B2)) :
    Calls Tryd.prog 6 #[.int .i64 v, .int .i64 u, fl a3 b3 c3 n3, fl a4 b4 c4 n4] w fun e w' => e = .returned (.bool true) ∧ Gr w w' := by
  obtain ⟨ku1, ku2, kt1, kt2, kp3, kp4⟩ := H
  have cu1 := fun w => Lib.hid (ku1 w)
  have cu2 := fun w => Lib.hid (ku2 w)
  have ct1 := fun w ht => Lib.hid (kt1 w ht)
  have ct2 := fun w ht => Lib.hid (kt2 w ht)
  have cp3 := fun w => Lib.hid (kp3 w)
  have cp4 := fun w => Lib.hid (kp4 w)
  have q1 := fun w => run_flags_eql a1 b1 c1 n1 a2 b2 c2 n2 w
  have q2 := fun w => run_flags_eql a3 b3 c3 n3 a4 b4 c4 n4 w
  clear ku1 ku2 kt1 kt2 kp3 kp4
  go_enter Tryd.func6, Tryd.ntmps6
  go_wp2_with fail
  refine (cu1 _).out.mono ?_
  rintro e w1 ⟨rfl, hb1⟩
  have F3 := ((FlAt.new w a3 b3 c3 n3 23).gr ((Gr.refl _).al (.cells #[.bool a4, .bool b4, .bool c4, .int .i64 n4] 23))).gr hb1
  have F4 := (FlAt.new (w.alloc (.cells #[.bool a3, .bool b3, .bool c3, .int .i64 n3] 23)) a4 b4 c4 n4 23).gr hb1
  have G := (((Gr.refl w).al (.cells #[.bool a3, .bool b3, .bool c3, .int .i64 n3] 23)).al (.cells #[.bool a4, .bool b4, .bool c4, .int .i64 n4] 23)).trans hb1
  rw [show (w.alloc (.cells #[.bool a3, .bool b3, .bool c3, .int .i64 n3] 23)).heap.size = w.heap.size + 1 from by simp] at F4
  clear hb1
  go_wp2_with fail
  refine (cu2 _).out.mono ?_
  rintro e w2 ⟨rfl, hb2⟩
  replace F3 := (F3.gr ((Gr.refl w1).al (.cells #[.bool a1, .bool b1, .bool c1, .int .i64 n1] 23))).gr hb2
  replace F4 := (F4.gr ((Gr.refl w1).al (.cells #[.bool a1, .bool b1, .bool c1, .int .i64 n1] 23))).gr hb2
  have F1 := (FlAt.new w1 a1 b1 c1 n1 23).gr hb2
  replace G := (G.al (.cells #[.bool a1, .bool b1, .bool c1, .int .i64 n1] 23)).trans hb2
  clear hb2
  go_wp2_with fail
  replace F1 := F1.gr ((Gr.refl w2).al (.cells #[.bool a2, .bool b2, .bool c2, .int .i64 n2] 23))
  have F2 := FlAt.new w2 a2 b2 c2 n2 23
  replace F3 := F3.gr ((Gr.refl w2).al (.cells #[.bool a2, .bool b2, .bool c2, .int .i64 n2] 23))
  replace F4 := F4.gr ((Gr.refl w2).al (.cells #[.bool a2, .bool b2, .bool c2, .int .i64 n2] 23))
  replace G := G.al (.cells #[.bool a2, .bool b2, .bool c2, .int .i64 n2] 23)
  refine (ct1 _ (ht.gr G)).out.mono ?_
  rintro e w3 ⟨rfl, hb3⟩
  replace F1 := F1.gr hb3
  replace F2 := F2.gr hb3
  replace F3 := F3.gr hb3
  replace F4 := F4.gr hb3
  replace G := G.trans hb3
  clear hb3
  go_wp2_with fail
  refine (ct2 _ (ht.gr G)).out.mono ?_
  rintro e w4 ⟨rfl, hb4⟩
  replace F1 := F1.gr hb4
  replace F2 := F2.gr hb4
  replace F3 := F3.gr hb4
  replace F4 := F4.gr hb4
  replace G := G.trans hb4
  clear hb4
  obtain ⟨f10, f11, f12, f13, f14⟩ := F1
  obtain ⟨f20, f21, f22, f23, f24⟩ := F2
  have F3' := F3
  have F4' := F4
  obtain ⟨f30, f31, f32, f33, f34⟩ := F3'
  obtain ⟨f40, f41, f42, f43, f44⟩ := F4'
  rcases hfirst with rfl | ⟨rfl, rfl⟩ | ⟨rfl, rfl, rfl, rfl, h1, h2, h3⟩
  all_goals go_wp2_with fail
  all_goals refine (cp3 _).out.mono ?_
  all_goals rintro e w5 ⟨rfl, hb5⟩
  all_goals replace F3 := F3.gr hb5
  all_goals replace F4 := F4.gr hb5
  all_goals replace G := G.trans hb5
  all_goals clear hb5 f10 f11 f12 f13 f14 f20 f21 f22 f23 f24 f30 f31 f32 f33 f34 f40 f41 f42 f43 f44
  all_goals have F3' := F3
  all_goals have F4' := F4
  all_goals obtain ⟨f30, f31, f32, f33, f34⟩ := F3'
  all_goals obtain ⟨f40, f41, f42, f43, f44⟩ := F4'
  all_goals go_wp2_with fail
  all_goals refine (cp4 _).out.mono ?_
  all_goals rintro e w6 ⟨rfl, hb6⟩
  all_goals replace F3 := F3.gr hb6
  all_goals replace F4 := F4.gr hb6
  all_goals replace G := G.trans hb6
  all_goals clear hb6 f30 f31 f32 f33 f34 f40 f41 f42 f43 f44
  all_goals go_wp2_with fail
  all_goals refine (alive3_ok _ (ht.gr G)).mono ?_
  all_goals rintro e w7 ⟨rfl, hb7⟩
  all_goals replace F3 := F3.gr hb7
  all_goals replace F4 := F4.gr hb7
  all_goals replace G := G.trans hb7
  all_goals clear hb7
  all_goals obtain ⟨f30, f31, f32, f33, f34⟩ := F3
  all_goals obtain ⟨f40, f41, f42, f43, f44⟩ := F4
  all_goals rcases hlast with rfl | ⟨rfl, rfl⟩ | ⟨rfl, rfl, g1, g2⟩
  all_goals go_wp2_with fail
  all_goals go_ret
  all_goals exact ⟨rfl, G⟩
end

theorem flEq_same (a b c : Bool) (n : Int) : flEq a b c n a b c n = true := by simp [flEq]

theorem FlagsApart_walk (w : World) (ht : Tab w) (v : Int) (hv : -9223372036854775808 ≤ v ∧ v ≤ 9223372036854775807) (u : Int) (hu : -9223372036854775808 ≤ u ∧ u ≤ 9223372036854775807)
    (a3 b3 c3 : Bool) (n3 : Int) (h3 : -9223372036854775808 ≤ n3 ∧ n3 ≤ 9223372036854775807) (a4 b4 c4 : Bool) (n4 : Int) (h4 : -9223372036854775808 ≤ n4 ∧ n4 ≤ 9223372036854775807) :
    Calls Tryd.prog 6 #[.int .i64 v, .int .i64 u, fl a3 b3 c3 n3, fl a4 b4 c4 n4] w fun e w' => e = .returned (.bool true) ∧ Gr w w' := by
  have one : ∀ v : Int, ∃ (a b c : Bool) (n E I : Int) (S : ByteArray), (∀ w, Calls Tryd.prog 8 #[.int .i64 v] w fun e w' => e = .returned (.tuple #[fl a b c n, .int .i64 E]) ∧ Gr w w') ∧
      (∀ w, Tab w → Calls Tryd.prog 9 #[.int .i64 v] w fun e w' => e = .returned (.tuple #[.string S, .int .i64 I]) ∧ Gr w w') ∧ (E = 1 ∨ (E = 0 ∧ I = 0 ∧ v = pw a b c n ∧ S = tx a b c n ∧ 0 ≤ n)) := by
    intro v
    by_cases h : 0 ≤ v ∧ v < 2147483648
    · obtain ⟨a, b, c, n, rfl, hn⟩ := pw_of h
      exact ⟨a, b, c, n, 0, 0, tx a b c n, Unpack_ok a b c n hn, Text_ok a b c n hn, .inr ⟨rfl, rfl, rfl, rfl, hn.1⟩⟩
    · exact ⟨false, false, false, 0, 1, 1, ⟨#[]⟩, Unpack_no v h, fun w _ => Text_no v h w, .inl rfl⟩
  have two : ∀ (a b c : Bool) (n : Int), ∃ X K : Int, (∀ w, Calls Tryd.prog 7 #[fl a b c n] w fun e w' => e = .returned (.tuple #[.int .i64 X, .int .i64 K]) ∧ Gr w w') ∧ (K = 1 ∨ (K = 0 ∧ X = pw a b c n)) := by
    intro a b c n
    by_cases h : 0 ≤ n ∧ n < 268435456
    · exact ⟨_, 0, Pack_ok a b c n h, .inr ⟨rfl, rfl⟩⟩
    · exact ⟨0, 1, Pack_no a b c n h, .inl rfl⟩
  obtain ⟨a1, b1, c1, n1, E1, I1, S1, u1, t1, r1⟩ := one v
  obtain ⟨a2, b2, c2, n2, E2, I2, S2, u2, t2, r2⟩ := one u
  obtain ⟨X, K, p3, r3⟩ := two a3 b3 c3 n3
  obtain ⟨Y, L, p4, r4⟩ := two a4 b4 c4 n4
  refine apart_run ⟨u1, u2, t1, t2, p3, p4⟩ w ht (v == u) (X == Y) ?_ ?_
  · rcases r1 with rfl | ⟨rfl, rfl, rfl, rfl, p1⟩
    · exact .inl rfl
    · rcases r2 with rfl | ⟨rfl, rfl, rfl, rfl, p2⟩
      · exact .inr (.inl ⟨rfl, rfl⟩)
      · refine .inr (.inr ⟨rfl, rfl, rfl, rfl, ?_, rfl, ?_⟩)
        · by_cases h : pw a1 b1 c1 n1 = pw a2 b2 c2 n2
          · obtain ⟨rfl, rfl, rfl, rfl⟩ := pw_inj h
            rw [flEq_same, beq_self_eq_true]
          · rw [beq_eq_false_iff_ne.2 h]
            unfold flEq
            exact decide_eq_false (fun ⟨e1, e2, e3, e4⟩ => h (by rw [e1, e2, e3, e4]))
        · by_cases h : pw a1 b1 c1 n1 = pw a2 b2 c2 n2
          · obtain ⟨rfl, rfl, rfl, rfl⟩ := pw_inj h
            rw [beq_self_eq_true, beq_self_eq_true]
          · rw [beq_eq_false_iff_ne.2 h]
            exact toList_ne (fun e => h (by obtain ⟨e1, e2, e3, e4⟩ := tx_inj p1 p2 e; rw [e1, e2, e3, e4]))
  · rcases r3 with rfl | ⟨rfl, rfl⟩
    · exact .inl rfl
    · rcases r4 with rfl | ⟨rfl, rfl⟩
      · exact .inr (.inl ⟨rfl, rfl⟩)
      · refine .inr (.inr ⟨rfl, rfl, ?_, rfl⟩)
        by_cases h : pw a3 b3 c3 n3 = pw a4 b4 c4 n4
        · obtain ⟨rfl, rfl, rfl, rfl⟩ := pw_inj h
          rw [flEq_same, beq_self_eq_true]
        · rw [beq_eq_false_iff_ne.2 h]
          unfold flEq
          exact decide_eq_false (fun ⟨e1, e2, e3, e4⟩ => h (by rw [e1, e2, e3, e4]))

set_option maxRecDepth 100000 in
theorem FlagsApart_lifted (os : Os) (started : os.Started) (H : Type) (enc : TypeId × Value → H) :
    ReturnsInHanded {} Tryd.checked os 6 .any (fun w args => (Rows.flagsApartSpec.pre enc Tryd.prog Tryd.f6 Rows.flagsApartRow.domain false w args ∧ laidMetH Tryd.prog laid3 w) ∧ sizedMet enc Tryd.prog Tryd.f6 (OpenSpec.ofChange Rows.flagsApartSpec) false w args)
      (Rows.flagsApartSpec.post enc Tryd.prog Tryd.f6 false true false false) := by
  refine returnsInHanded_of_change_and (C := Tryd.checked) (X := fun w _ => laidMetH Tryd.prog laid3 w) (fun _ _ _ hh h => laidMetH.of_heap hh h) own started (by kernel_rfl) Tryd.func6
    (ChangeSpec.witness_at (enc := enc) (C := Tryd.checked) (os := os) (X := fun w _ => laidMetH Tryd.prog laid3 w) false (laidWorld os) #[.int .i64 0, .int .i64 0, fl false false false 0, fl false false false 0] 8 rfl (by kernel_rfl) (by kernel_rfl) (by kernel_rfl) (by kernel_rfl) (by kernel_rfl) (laidWorld_met3 os _)) ?_
  intro W base args ds gs before hval0 hW _ _ hL _
  have hval : ∀ (j : Nat) t v, Tryd.f6.params[j]? = some t → args[j]? = some v → Value.okWide Tryd.prog W .any base t v := hval0
  have hW' := hW
  obtain ⟨p, q, hA0, hV, rfl, hfz, hnd⟩ := hW
  have hA : DataW.TrodAll enc Tryd.prog W 0 (fun _ => true) true Tryd.f6.params.toList args.toList ds p := hA0
  rw [Tryd.params6] at hA hval
  have hK := hA
  obtain ⟨v0, vs0, d0, ds0, p0, q0, hargs, rfl, hp, h0, r0⟩ := trodAll_cons hA
  obtain ⟨v1, vs1, d1, ds1, p1, q1, rfl, rfl, rfl, h1, r1⟩ := trodAll_cons r0
  obtain ⟨v2, vs2, d2, ds2, p2, q2, rfl, rfl, rfl, h2, r2⟩ := trodAll_cons r1
  obtain ⟨v3, vs3, d3, ds3, p3, q3, rfl, rfl, rfl, h3, r3⟩ := trodAll_cons r2
  obtain ⟨rfl, rfl, rfl⟩ := trodAll_nil r3
  obtain rfl : args = #[v0, v1, v2, v3] := by cases args; simp_all
  obtain ⟨rfl, rfl⟩ := trodVars_none hV
  obtain ⟨a0, rfl, rfl, rfl, w0⟩ := open_int Tryd.underlying3 (hval 0 3 v0 rfl rfl) h0
  obtain ⟨a1, rfl, rfl, rfl, w1⟩ := open_int Tryd.underlying3 (hval 1 3 v1 rfl rfl) h1
  obtain ⟨a2, b2, c2, n2, rfl, w2⟩ := open_flags (hval 2 23 v2 rfl rfl) h2
  obtain ⟨a3, b3, c3, n3, rfl, w3⟩ := open_flags (hval 3 23 v3 rfl rfl) h3
  clear hA0 hval0
  refine (FlagsApart_walk W (tab3 hL) a0 (wfb w0) a1 (wfb w1) a2 b2 c2 n2 w2 a3 b3 c3 n3 w3).mono fun e W' ⟨he, hg⟩ => ?_
  subst he
  exact ⟨_, rfl, post_below (pa := p) (pv := []) hW' (fun _ _ _ => (trodAll_cons_mk (shut_bool Tryd.underlying4 _) trodAll_mk0))
    (fun sp hs => trodAll_stays laidOut hg sp (by kernel_rfl) hK (fun x hx => hW'.lt x (List.mem_append_left _ hx)) (fun x hx => hs x (List.mem_append_left _ hx))) (fun _ _ => rfl) rfl
    hg (ok_one (by kernel_rfl) rfl (okWide_bool_mk Tryd.underlying4 _))⟩

theorem FlagsApart_over : Rows.flagsApartRow.holds Tryd.pinned (OpenSpec.ofChange Rows.flagsApartSpec) :=
  OpenClaim.holds_of_wide 6 Tryd.f6 rfl rfl rfl rfl rfl rfl rfl ⟨rfl, rfl, rfl, rfl, rfl⟩ rfl rfl rfl rfl rfl (by kernel_rfl) Tryd.func6 (by kernel_rfl)
    (of_decide_eq_true (by kernel_rfl)) (by unfold Func.isWrapper; first | (rw [if_pos (by decide +kernel)]; kernel_rfl) | (rw [if_neg (by decide +kernel)]; exact ⟨rfl, rfl⟩))
    (fun os started H enc _ => FlagsApart_lifted os started H enc)

/-- The statement: the tied card. -/
theorem FlagsApart_card : Rows.FlagsApartCardSaid :=
  Claim7.holds_tied_plain_at .later [] [.data, .data, .data] true _ true
    FlagsApart_over (fun _ h => by cases h) (by kernel_rfl) (fun _ h => by cases h) flagsApart_row_tie rfl ⟨rfl, rfl⟩ (by kernel_rfl) rfl
    (fun f fn hf hfn => by
      obtain rfl : f = 6 := Option.some.inj ((show Tryd.prog.funcNamed "deadbolt/deadboltlaw03.FlagsApart" = some 6 by kernel_rfl).symm.trans hf) |>.symm
      obtain rfl : fn = Tryd.f6 := (Option.some.inj (Tryd.func6.symm.trans hfn)).symm
      exact ⟨by kernel_rfl, fun j t ht => by
        rw [Tryd.params6] at ht
        have hm : t ∈ [3, 3, 23, 23] := by
          have := Array.mem_of_getElem? ht
          simpa using this
        have hall : ([3, 3, 23, 23] : List TypeId).all (fun t => Tryd.prog.wantsStandIn t == false) = true := by kernel_rfl
        have hw := List.all_eq_true.1 hall t hm
        exact beq_iff_eq.1 hw⟩)
    (by kernel_rfl)
#print axioms FlagsApart_card
end Go.Proofs.YtgcdnoceiemeoaaDoor
