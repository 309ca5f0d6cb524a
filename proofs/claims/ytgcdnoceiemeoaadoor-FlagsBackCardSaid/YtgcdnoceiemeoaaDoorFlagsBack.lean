/-
  Proved: deadboltlaw03.FlagsBack returns true at every input (what is packed is unpacked as it was, a text is read as it was written, more who wait change no bit, and as many less are as before). Condition: the tables and errors of strconv and math/bits start as their texts lay them (the card ties them).
-/
import Derived.Test.YtgcdnoceiemeoaaDoorFlagsParse
import Derived.Test.YtgcdnoceiemeoaaDoorFlagsLaid
import Derived.Test.YtgcdnoceiemeoaaDoorTie
import Derived.Test.YtgcdnoceiemeoaaDoorCards
namespace Go.Proofs.YtgcdnoceiemeoaaDoor
open Go.ChangeShapes Go.WideShapes Go.ChangeAt Go.RowKit
set_option linter.unusedVariables false

theorem Waits_ok (a b c : Bool) (n d m : Int) (h : 0 ≤ n ∧ n < 268435456) (hm : wrap64 (n + d) = m) (hr : 0 ≤ m ∧ m < 268435456) (w : World) : Calls Tryd.prog 10 #[.int .i64 (pw a b c n), .int .i64 d] w fun e w' => e = .returned (.tuple #[.int .i64 (pw a b c m), .int .i64 0]) ∧ Gr w w' :=
  Waits_is a b c n d m (pw a b c m) 0 h hm (fun w => Pack_ok a b c m hr w) _ _ (.inl ⟨rfl, rfl, rfl⟩) w
theorem Waits_no (a b c : Bool) (n d m : Int) (h : 0 ≤ n ∧ n < 268435456) (hm : wrap64 (n + d) = m) (hr : ¬ (0 ≤ m ∧ m < 268435456)) (w : World) : Calls Tryd.prog 10 #[.int .i64 (pw a b c n), .int .i64 d] w fun e w' => e = .returned (.tuple #[.int .i64 0, .int .i64 10]) ∧ Gr w w' :=
  Waits_is a b c n d m 0 1 h hm (fun w => Pack_no a b c m hr w) _ _ (.inr ⟨rfl, rfl, rfl⟩) w

/-- What Pack answers, and, of what it packs, Unpack. -/
def PackIs (a b c : Bool) (n X K : Int) : Prop :=
  (∀ w, Calls Tryd.prog 7 #[fl a b c n] w fun e w' => e = .returned (.tuple #[.int .i64 X, .int .i64 K]) ∧ Gr w w') ∧
  (K = 1 ∨ (K = 0 ∧ ∀ w, Calls Tryd.prog 8 #[.int .i64 X] w fun e w' => e = .returned (.tuple #[fl a b c n, .int .i64 0]) ∧ Gr w w'))
theorem pack_is (a b c : Bool) (n : Int) : ∃ X K, PackIs a b c n X K := by
  by_cases h : 0 ≤ n ∧ n < 268435456
  · exact ⟨_, 0, fun w => Pack_ok a b c n h w, .inr ⟨rfl, fun w => Unpack_ok a b c n h w⟩⟩
  · exact ⟨0, 1, fun w => Pack_no a b c n h w, .inl rfl⟩

set_option maxHeartbeats 4000000 in
set_option maxRecDepth 100000 in
theorem back_no (a3 b3 c3 : Bool) (n3 X K v d : Int) (hk : PackIs a3 b3 c3 n3 X K) (hv : ¬ (0 ≤ v ∧ v < 2147483648)) (w : World) (ht : Tab w) :
    Calls Tryd.prog 5 #[fl a3 b3 c3 n3, .int .i64 v, .int .i64 d] w fun e w' => e = .returned (.bool true) ∧ Gr w w' := by
  obtain ⟨kp, kk⟩ := hk
  have cp := fun w => Lib.hid (kp w)
  have cv := fun w => Lib.hid (Unpack_no v hv w)
  clear kp hv
  go_enter Tryd.func5, Tryd.ntmps5
  go_wp2_with fail
  refine (cp _).out.mono ?_
  rintro e w1 ⟨rfl, hb1⟩
  have F := (FlAt.new w a3 b3 c3 n3 23).gr hb1
  have G := ((Gr.refl w).al (.cells #[.bool a3, .bool b3, .bool c3, .int .i64 n3] 23)).trans hb1
  clear hb1
  rcases kk with rfl | ⟨rfl, ku⟩
  · go_wp2_with fail
    refine (cv _).out.mono ?_
    rintro e w3 ⟨rfl, hb3⟩
    replace G := G.trans hb3
    clear hb3
    go_wp2_with fail
    have F1 := FlAt.new w3 false false false 0 23
    replace G := G.al (.cells #[.bool false, .bool false, .bool false, .int .i64 0] 23)
    refine (alive3_ok _ (ht.gr G)).mono ?_
    rintro e w4 ⟨rfl, hb4⟩
    obtain ⟨f0, f1, f2, f3, f4⟩ := F1.gr hb4
    replace G := G.trans hb4
    clear hb4
    go_wp2_with fail
    go_ret
    exact ⟨rfl, G⟩
  · have cu := fun w => Lib.hid (ku w)
    clear ku
    go_wp2_with fail
    refine (cu _).out.mono ?_
    rintro e w2 ⟨rfl, hb2⟩
    have F' := (F.gr hb2).gr ((Gr.refl w2).al (.cells #[.bool a3, .bool b3, .bool c3, .int .i64 n3] 23))
    obtain ⟨f0, f1, f2, f3, f4⟩ := F.gr hb2
    replace G := (G.trans hb2).al (.cells #[.bool a3, .bool b3, .bool c3, .int .i64 n3] 23)
    clear hb2
    go_wp2_with fail
    refine (cv _).out.mono ?_
    rintro e w3 ⟨rfl, hb3⟩
    replace G := G.trans hb3
    clear hb3
    go_wp2_with fail
    have F1 := FlAt.new w3 false false false 0 23
    replace G := G.al (.cells #[.bool false, .bool false, .bool false, .int .i64 0] 23)
    refine (alive3_ok _ (ht.gr G)).mono ?_
    rintro e w4 ⟨rfl, hb4⟩
    obtain ⟨g0, g1, g2, g3, g4⟩ := F1.gr hb4
    replace G := G.trans hb4
    clear hb4
    go_wp2_with fail
    go_ret
    exact ⟨rfl, G⟩

set_option maxHeartbeats 8000000 in
set_option maxRecDepth 100000 in
theorem back_yes (a3 b3 c3 : Bool) (n3 X K d : Int) (hk : PackIs a3 b3 c3 n3 X K) (a b c : Bool) (n m : Int) (hn : 0 ≤ n ∧ n < 268435456) (hm : wrap64 (n + d) = m) (hd : -9223372036854775808 ≤ d ∧ d ≤ 9223372036854775807) (w : World) (ht : Tab w) :
    Calls Tryd.prog 5 #[fl a3 b3 c3 n3, .int .i64 (pw a b c n), .int .i64 d] w fun e w' => e = .returned (.bool true) ∧ Gr w w' := by
  obtain ⟨kp, kk⟩ := hk
  have cp := fun w => Lib.hid (kp w)
  have cv := fun w => Lib.hid (Unpack_ok a b c n hn w)
  have cq := fun w => Lib.hid (Pack_ok a b c n hn w)
  have ct := fun w ht => Lib.hid (Text_ok a b c n hn w ht)
  have cr := fun w ht => Lib.hid (Parse_ok a b c n hn w ht)
  have last : Hid ((∀ w, Calls Tryd.prog 10 #[.int .i64 (pw a b c n), .int .i64 d] w fun e w' => e = .returned (.tuple #[.int .i64 0, .int .i64 10]) ∧ Gr w w') ∨
      ∃ N, (∀ w, Calls Tryd.prog 10 #[.int .i64 (pw a b c n), .int .i64 d] w fun e w' => e = .returned (.tuple #[.int .i64 N, .int .i64 0]) ∧ Gr w w') ∧
        (∀ w, Calls Tryd.prog 8 #[.int .i64 N] w fun e w' => e = .returned (.tuple #[fl a b c m, .int .i64 0]) ∧ Gr w w') ∧
        (∀ w, Calls Tryd.prog 10 #[.int .i64 N, .int .i64 (wrap64 (-d))] w fun e w' => e = .returned (.tuple #[.int .i64 (pw a b c n), .int .i64 0]) ∧ Gr w w')) := by
    refine Lib.hid ?_
    by_cases hr : 0 ≤ m ∧ m < 268435456
    · refine .inr ⟨pw a b c m, fun w => Waits_ok a b c n d m hn hm hr w, fun w => Unpack_ok a b c m hr w, fun w => Waits_ok a b c m (wrap64 (-d)) n hr ?_ hn w⟩
      unfold wrap64 at hm ⊢
      omega
    · exact .inl (fun w => Waits_no a b c n d m hn hm hr w)
  have HM := Lib.hid hm
  clear kp hm hn hd
  generalize pw a b c n = v at *
  generalize tx a b c n = T at *
  go_enter Tryd.func5, Tryd.ntmps5
  go_wp2_with fail
  refine (cp _).out.mono ?_
  rintro e w1 ⟨rfl, hb1⟩
  have F := (FlAt.new w a3 b3 c3 n3 23).gr hb1
  have G := ((Gr.refl w).al (.cells #[.bool a3, .bool b3, .bool c3, .int .i64 n3] 23)).trans hb1
  clear hb1
  rcases kk with rfl | ⟨rfl, ku⟩
  · go_wp2_with fail
    refine (cv _).out.mono ?_
    rintro e w3 ⟨rfl, hb3⟩
    replace G := G.trans hb3
    clear hb3
    go_wp2_with fail
    have D := FlAt.new w3 a b c n 23
    replace G := G.al (.cells #[.bool a, .bool b, .bool c, .int .i64 n] 23)
    refine (cq _).out.mono ?_
    rintro e w4 ⟨rfl, hb4⟩
    replace D := D.gr hb4
    replace G := G.trans hb4
    clear hb4
    go_wp2_with fail
    refine (ct _ (ht.gr G)).out.mono ?_
    rintro e w5 ⟨rfl, hb5⟩
    replace D := D.gr hb5
    replace G := G.trans hb5
    clear hb5
    go_wp2_with fail
    refine (cr _ (ht.gr G)).out.mono ?_
    rintro e w6 ⟨rfl, hb6⟩
    replace D := D.gr hb6
    replace G := G.trans hb6
    clear hb6
    go_wp2_with fail
    refine (alive3_ok _ (ht.gr G)).mono ?_
    rintro e w7 ⟨rfl, hb7⟩
    replace D := D.gr hb7
    replace G := G.trans hb7
    clear hb7
    go_wp2_with fail
    rcases last.out with k1 | ⟨N, k1, k2, k3⟩
    · have c1 := fun w => Lib.hid (k1 w)
      clear k1 last
      refine (c1 _).out.mono ?_
      rintro e w8 ⟨rfl, hb8⟩
      go_wp2_with fail
      go_ret
      exact ⟨rfl, G.trans hb8⟩
    · have c1 := fun w => Lib.hid (k1 w)
      have c2 := fun w => Lib.hid (k2 w)
      have c3 := fun w => Lib.hid (k3 w)
      clear k1 k2 k3 last
      refine (c1 _).out.mono ?_
      rintro e w8 ⟨rfl, hb8⟩
      replace D := D.gr hb8
      replace G := G.trans hb8
      clear hb8
      go_wp2_with fail
      refine (c2 _).out.mono ?_
      rintro e w9 ⟨rfl, hb9⟩
      replace D := (D.gr hb9).gr ((Gr.refl w9).al (.cells #[.bool a, .bool b, .bool c, .int .i64 m] 23))
      have E := FlAt.new w9 a b c m 23
      replace G := (G.trans hb9).al (.cells #[.bool a, .bool b, .bool c, .int .i64 m] 23)
      clear hb9
      go_wp2_with fail
      refine (c3 _).out.mono ?_
      rintro e w10 ⟨rfl, hb10⟩
      obtain ⟨d0, d1, d2, d3, d4⟩ := D.gr hb10
      obtain ⟨e0, e1, e2, e3, e4⟩ := E.gr hb10
      replace G := G.trans hb10
      clear hb10 D E
      have hm := HM.out
      go_wp2_with fail
      go_ret
      exact ⟨rfl, G⟩
  · have cu := fun w => Lib.hid (ku w)
    clear ku
    go_wp2_with fail
    refine (cu _).out.mono ?_
    rintro e w2 ⟨rfl, hb2⟩
    have F' := (F.gr hb2).gr ((Gr.refl w2).al (.cells #[.bool a3, .bool b3, .bool c3, .int .i64 n3] 23))
    obtain ⟨f0, f1, f2, f3, f4⟩ := F.gr hb2
    replace G := (G.trans hb2).al (.cells #[.bool a3, .bool b3, .bool c3, .int .i64 n3] 23)
    clear hb2
    go_wp2_with fail
    refine (cv _).out.mono ?_
    rintro e w3 ⟨rfl, hb3⟩
    replace G := G.trans hb3
    clear hb3
    go_wp2_with fail
    have D := FlAt.new w3 a b c n 23
    replace G := G.al (.cells #[.bool a, .bool b, .bool c, .int .i64 n] 23)
    refine (cq _).out.mono ?_
    rintro e w4 ⟨rfl, hb4⟩
    replace D := D.gr hb4
    replace G := G.trans hb4
    clear hb4
    go_wp2_with fail
    refine (ct _ (ht.gr G)).out.mono ?_
    rintro e w5 ⟨rfl, hb5⟩
    replace D := D.gr hb5
    replace G := G.trans hb5
    clear hb5
    go_wp2_with fail
    refine (cr _ (ht.gr G)).out.mono ?_
    rintro e w6 ⟨rfl, hb6⟩
    replace D := D.gr hb6
    replace G := G.trans hb6
    clear hb6
    go_wp2_with fail
    refine (alive3_ok _ (ht.gr G)).mono ?_
    rintro e w7 ⟨rfl, hb7⟩
    replace D := D.gr hb7
    replace G := G.trans hb7
    clear hb7
    go_wp2_with fail
    rcases last.out with k1 | ⟨N, k1, k2, k3⟩
    · have c1 := fun w => Lib.hid (k1 w)
      clear k1 last
      refine (c1 _).out.mono ?_
      rintro e w8 ⟨rfl, hb8⟩
      go_wp2_with fail
      go_ret
      exact ⟨rfl, G.trans hb8⟩
    · have c1 := fun w => Lib.hid (k1 w)
      have c2 := fun w => Lib.hid (k2 w)
      have c3 := fun w => Lib.hid (k3 w)
      clear k1 k2 k3 last
      refine (c1 _).out.mono ?_
      rintro e w8 ⟨rfl, hb8⟩
      replace D := D.gr hb8
      replace G := G.trans hb8
      clear hb8
      go_wp2_with fail
      refine (c2 _).out.mono ?_
      rintro e w9 ⟨rfl, hb9⟩
      replace D := (D.gr hb9).gr ((Gr.refl w9).al (.cells #[.bool a, .bool b, .bool c, .int .i64 m] 23))
      have E := FlAt.new w9 a b c m 23
      replace G := (G.trans hb9).al (.cells #[.bool a, .bool b, .bool c, .int .i64 m] 23)
      clear hb9
      go_wp2_with fail
      refine (c3 _).out.mono ?_
      rintro e w10 ⟨rfl, hb10⟩
      obtain ⟨d0, d1, d2, d3, d4⟩ := D.gr hb10
      obtain ⟨e0, e1, e2, e3, e4⟩ := E.gr hb10
      replace G := G.trans hb10
      clear hb10 D E
      have hm := HM.out
      go_wp2_with fail
      go_ret
      exact ⟨rfl, G⟩

theorem FlagsBack_walk (w : World) (ht : Tab w) (a3 b3 c3 : Bool) (n3 : Int) (h3 : -9223372036854775808 ≤ n3 ∧ n3 ≤ 9223372036854775807) (v : Int) (hv : -9223372036854775808 ≤ v ∧ v ≤ 9223372036854775807) (d : Int) (hd : -9223372036854775808 ≤ d ∧ d ≤ 9223372036854775807) :
    Calls Tryd.prog 5 #[fl a3 b3 c3 n3, .int .i64 v, .int .i64 d] w fun e w' => e = .returned (.bool true) ∧ Gr w w' := by
  obtain ⟨X, K, hk⟩ := pack_is a3 b3 c3 n3
  by_cases h : 0 ≤ v ∧ v < 2147483648
  · obtain ⟨a, b, c, n, rfl, hn⟩ := pw_of h
    exact back_yes a3 b3 c3 n3 X K d hk a b c n _ hn rfl hd w ht
  · exact back_no a3 b3 c3 n3 X K v d hk h w ht

set_option maxRecDepth 100000 in
theorem FlagsBack_lifted (os : Os) (started : os.Started) (H : Type) (enc : TypeId × Value → H) :
    ReturnsInHanded {} Tryd.checked os 5 .any (fun w args => (Rows.flagsBackSpec.pre enc Tryd.prog Tryd.f5 Rows.flagsBackRow.domain false w args ∧ laidMetH Tryd.prog laid5 w) ∧ sizedMet enc Tryd.prog Tryd.f5 (OpenSpec.ofChange Rows.flagsBackSpec) false w args)
      (Rows.flagsBackSpec.post enc Tryd.prog Tryd.f5 false true false false) := by
  refine returnsInHanded_of_change_and (C := Tryd.checked) (X := fun w _ => laidMetH Tryd.prog laid5 w) (fun _ _ _ hh h => laidMetH.of_heap hh h) own started (by kernel_rfl) Tryd.func5
    (ChangeSpec.witness_at (enc := enc) (C := Tryd.checked) (os := os) (X := fun w _ => laidMetH Tryd.prog laid5 w) false (laidWorld os) #[fl false false false 0, .int .i64 0, .int .i64 0] 8 rfl (by kernel_rfl) (by kernel_rfl) (by kernel_rfl) (by kernel_rfl) (by kernel_rfl) (laidWorld_met5 os _)) ?_
  intro W base args ds gs before hval0 hW _ _ hL _
  have hval : ∀ (j : Nat) t v, Tryd.f5.params[j]? = some t → args[j]? = some v → Value.okWide Tryd.prog W .any base t v := hval0
  have hW' := hW
  obtain ⟨p, q, hA0, hV, rfl, hfz, hnd⟩ := hW
  have hA : DataW.TrodAll enc Tryd.prog W 0 (fun _ => true) true Tryd.f5.params.toList args.toList ds p := hA0
  rw [Tryd.params5] at hA hval
  have hK := hA
  obtain ⟨v0, vs0, d0, ds0, p0, q0, hargs, rfl, hp, h0, r0⟩ := trodAll_cons hA
  obtain ⟨v1, vs1, d1, ds1, p1, q1, rfl, rfl, rfl, h1, r1⟩ := trodAll_cons r0
  obtain ⟨v2, vs2, d2, ds2, p2, q2, rfl, rfl, rfl, h2, r2⟩ := trodAll_cons r1
  obtain ⟨rfl, rfl, rfl⟩ := trodAll_nil r2
  obtain rfl : args = #[v0, v1, v2] := by cases args; simp_all
  obtain ⟨rfl, rfl⟩ := trodVars_none hV
  obtain ⟨a0, b0, c0, n0, rfl, w0⟩ := open_flags (hval 0 23 v0 rfl rfl) h0
  obtain ⟨a1, rfl, rfl, rfl, w1⟩ := open_int Tryd.underlying3 (hval 1 3 v1 rfl rfl) h1
  obtain ⟨a2, rfl, rfl, rfl, w2⟩ := open_int Tryd.underlying3 (hval 2 3 v2 rfl rfl) h2
  clear hA0 hval0
  refine (FlagsBack_walk W (tab5 hL) a0 b0 c0 n0 w0 a1 (wfb w1) a2 (wfb w2)).mono fun e W' ⟨he, hg⟩ => ?_
  subst he
  exact ⟨_, rfl, post_below (pa := p) (pv := []) hW' (fun _ _ _ => (trodAll_cons_mk (shut_bool Tryd.underlying4 _) trodAll_mk0))
    (fun sp hs => trodAll_stays laidOut hg sp (by kernel_rfl) hK (fun x hx => hW'.lt x (List.mem_append_left _ hx)) (fun x hx => hs x (List.mem_append_left _ hx))) (fun _ _ => rfl) rfl
    hg (ok_one (by kernel_rfl) rfl (okWide_bool_mk Tryd.underlying4 _))⟩

theorem FlagsBack_over : Rows.flagsBackRow.holds Tryd.pinned (OpenSpec.ofChange Rows.flagsBackSpec) :=
  OpenClaim.holds_of_wide 5 Tryd.f5 rfl rfl rfl rfl rfl rfl rfl ⟨rfl, rfl, rfl, rfl, rfl⟩ rfl rfl rfl rfl rfl (by kernel_rfl) Tryd.func5 (by kernel_rfl)
    (of_decide_eq_true (by kernel_rfl)) (by unfold Func.isWrapper; first | (rw [if_pos (by decide +kernel)]; kernel_rfl) | (rw [if_neg (by decide +kernel)]; exact ⟨rfl, rfl⟩))
    (fun os started H enc _ => FlagsBack_lifted os started H enc)

/-- The statement: the tied card. -/
theorem FlagsBack_card : Rows.FlagsBackCardSaid :=
  Claim7.holds_tied_plain_at .later [] [.data, .data, .data, .sentinel, .sentinel] true _ true
    FlagsBack_over (fun _ h => by cases h) (by kernel_rfl) (fun _ h => by cases h) flagsBack_row_tie rfl ⟨rfl, rfl⟩ (by kernel_rfl) rfl
    (fun f fn hf hfn => by
      obtain rfl : f = 5 := Option.some.inj ((show Tryd.prog.funcNamed "deadbolt/deadboltlaw03.FlagsBack" = some 5 by kernel_rfl).symm.trans hf) |>.symm
      obtain rfl : fn = Tryd.f5 := (Option.some.inj (Tryd.func5.symm.trans hfn)).symm
      exact ⟨by kernel_rfl, fun j t ht => by
        rw [Tryd.params5] at ht
        have hm : t ∈ [23, 3, 3] := by
          have := Array.mem_of_getElem? ht
          simpa using this
        have hall : ([23, 3, 3] : List TypeId).all (fun t => Tryd.prog.wantsStandIn t == false) = true := by kernel_rfl
        have hw := List.all_eq_true.1 hall t hm
        exact beq_iff_eq.1 hw⟩)
    (by kernel_rfl)
#print axioms FlagsBack_card
end Go.Proofs.YtgcdnoceiemeoaaDoor
