/-
  Proved: deadboltlaw03.FlagsTell returns true at every input (any flags as a word, any word as flags and as a text, and with any more who wait, is as the document says, or refused). Condition: the tables of strconv and math/bits start as their texts lay them (the card ties them).
-/
import Derived.Test.YtgcdnoceiemeoaaDoorFlagsRef
import Derived.Test.YtgcdnoceiemeoaaDoorFlagsLaid
import Derived.Test.YtgcdnoceiemeoaaDoorTie
import Derived.Test.YtgcdnoceiemeoaaDoorCards
namespace Go.Proofs.YtgcdnoceiemeoaaDoor
open Go.ChangeShapes Go.WideShapes Go.ChangeAt Go.RowKit
set_option linter.unusedVariables false

/-- What Pack answers of flags, and what the document's May and Pack do. -/
def TellF (a b c : Bool) (n X K : Int) : Prop :=
  (∀ w, Calls Tryd.prog 7 #[fl a b c n] w fun e w' => e = .returned (.tuple #[.int .i64 X, .int .i64 K]) ∧ Gr w w') ∧
  ((X = 0 ∧ K = 1 ∧ ∀ w, Calls Tryd.prog 12 #[fl a b c n] w fun e w' => e = .returned (.bool false) ∧ Gr w w') ∨
   (K = 0 ∧ (∀ w, Calls Tryd.prog 12 #[fl a b c n] w fun e w' => e = .returned (.bool true) ∧ Gr w w') ∧
    ∀ w, Calls Tryd.prog 13 #[fl a b c n] w fun e w' => e = .returned (.int .i64 X) ∧ Gr w w'))
theorem tell_f (a b c : Bool) (n : Int) : ∃ X K, TellF a b c n X K := by
  by_cases h : 0 ≤ n ∧ n < 268435456
  · exact ⟨_, 0, fun w => Pack_ok a b c n h w, .inr ⟨rfl, fun w => rMay_yes a b c n h w, fun w => rPack_ok a b c n h w⟩⟩
  · exact ⟨0, 1, fun w => Pack_no a b c n h w, .inl ⟨rfl, rfl, fun w => rMay_no a b c n h w⟩⟩
theorem over8 (a b c : Bool) (n d : Int) (h : 0 ≤ n ∧ n < 268435456) (hd : 0 ≤ n + d ∧ n + d < 268435456) : wrap64 (pw a b c n + wrap64 (8 * d)) = pw a b c (n + d) := by
  have h1 := b1_le a
  have h2 := b1_le b
  have h3 := b1_le c
  unfold wrap64 pw
  omega

set_option maxHeartbeats 4000000 in
set_option maxRecDepth 100000 in
theorem tell_no (a3 b3 c3 : Bool) (n3 X K v d : Int) (hk0 : TellF a3 b3 c3 n3 X K) (hv : ¬ (0 ≤ v ∧ v < 2147483648)) (a b c : Bool) (n : Int) (ha : a = false) (hb : b = false) (hc : c = false) (hn : n = 0) (w : World) (ht : Tab w) :
    Calls Tryd.prog 3 #[fl a3 b3 c3 n3, .int .i64 v, .int .i64 d] w fun e w' => e = .returned (.bool true) ∧ Gr w w' := by
  obtain ⟨kp, hk⟩ := hk0
  have cp := fun w => Lib.hid (kp w)
  subst ha hb hc hn
  have cu := fun w => Lib.hid (Unpack_no v hv w)
  have ct := fun w (ht : Tab w) => Lib.hid (Text_no v hv w)
  have cw := fun w => Lib.hid (Waits_bad v d hv w)
  have cW := fun w => Lib.hid (rWord_no v hv w)
  clear kp hv
  go_enter Tryd.func3, Tryd.ntmps3
  go_wp2_with fail
  refine (cp _).out.mono ?_
  rintro e w1 ⟨rfl, hb1⟩
  have F := (FlAt.new w a3 b3 c3 n3 23).gr hb1
  have G := ((Gr.refl w).al (.cells #[.bool a3, .bool b3, .bool c3, .int .i64 n3] 23)).trans hb1
  clear hb1
  go_wp2_with fail
  refine (cu _).out.mono ?_
  rintro e w2 ⟨rfl, hb2⟩
  replace F := (F.gr hb2).gr ((Gr.refl w2).al (.cells #[.bool false, .bool false, .bool false, .int .i64 0] 23))
  have D := FlAt.new w2 false false false 0 23
  replace G := (G.trans hb2).al (.cells #[.bool false, .bool false, .bool false, .int .i64 0] 23)
  clear hb2
  go_wp2_with fail
  refine (ct _ (ht.gr G)).out.mono ?_
  rintro e w3 ⟨rfl, hb3⟩
  replace F := F.gr hb3
  replace D := D.gr hb3
  replace G := G.trans hb3
  clear hb3
  go_wp2_with fail
  refine (cw _).out.mono ?_
  rintro e w4 ⟨rfl, hb4⟩
  replace F := F.gr hb4
  replace D := D.gr hb4
  replace G := G.trans hb4
  clear hb4
  go_wp2_with fail
  refine (alive3_ok _ (ht.gr G)).mono ?_
  rintro e w5 ⟨rfl, hb5⟩
  replace F := F.gr hb5
  replace D := D.gr hb5
  replace G := G.trans hb5
  clear hb5
  obtain ⟨f0, f1, f2, f3, f4⟩ := id F
  go_wp2_with fail
  rcases hk with ⟨rfl, rfl, km⟩ | ⟨rfl, km, kr⟩
  · have cm := fun w => Lib.hid (km w)
    clear km
    refine (cm _).out.mono ?_
    rintro e w6 ⟨rfl, hb6⟩
    replace D := D.gr hb6
    replace G := G.trans hb6
    clear hb6 f0 f1 f2 f3 f4
    go_wp2_with fail
    refine (cW _).out.mono ?_
    rintro e w8 ⟨rfl, rfl⟩
    obtain ⟨d0, d1, d2, d3, d4⟩ := D
    go_wp2_with fail
    go_ret
    exact ⟨rfl, G⟩
  · have cm := fun w => Lib.hid (km w)
    have cr := fun w => Lib.hid (kr w)
    clear km kr
    refine (cm _).out.mono ?_
    rintro e w6 ⟨rfl, hb6⟩
    replace F := F.gr hb6
    replace D := D.gr hb6
    replace G := G.trans hb6
    clear hb6 f0 f1 f2 f3 f4
    obtain ⟨f0, f1, f2, f3, f4⟩ := id F
    go_wp2_with fail
    refine (cr _).out.mono ?_
    rintro e w7 ⟨rfl, hb7⟩
    replace D := D.gr hb7
    replace G := G.trans hb7
    clear hb7 f0 f1 f2 f3 f4
    go_wp2_with fail
    refine (cW _).out.mono ?_
    rintro e w8 ⟨rfl, rfl⟩
    obtain ⟨d0, d1, d2, d3, d4⟩ := D
    go_wp2_with fail
    go_ret
    exact ⟨rfl, G⟩

set_option maxHeartbeats 8000000 in
set_option maxRecDepth 100000 in
theorem tell_yes (a3 b3 c3 : Bool) (n3 X K d : Int) (hk0 : TellF a3 b3 c3 n3 X K) (a b c : Bool) (n N I : Int) (B : Bool) (hn : 0 ≤ n ∧ n < 268435456)
    (hw : ∀ w, Calls Tryd.prog 10 #[.int .i64 (pw a b c n), .int .i64 d] w fun e w' => e = .returned (.tuple #[.int .i64 N, .int .i64 I]) ∧ Gr w w')
    (ho : ∀ w, Calls Tryd.prog 17 #[.int .i64 (pw a b c n), .int .i64 d] w fun e w' => e = .returned (.bool B) ∧ Gr w w')
    (hlast : (B = true ∧ I = 10 ∧ N = 0) ∨ (B = false ∧ I = 0 ∧ wrap64 (pw a b c n + wrap64 (8 * d)) = N)) (w : World) (ht : Tab w) :
    Calls Tryd.prog 3 #[fl a3 b3 c3 n3, .int .i64 (pw a b c n), .int .i64 d] w fun e w' => e = .returned (.bool true) ∧ Gr w w' := by
  obtain ⟨kp, hk⟩ := hk0
  have cp := fun w => Lib.hid (kp w)
  have cu := fun w => Lib.hid (Unpack_ok a b c n hn w)
  have ct := fun w ht => Lib.hid (Text_ok a b c n hn w ht)
  have cw := fun w => Lib.hid (hw w)
  have cW := fun w => Lib.hid (rWord_yes (pw a b c n) (by obtain ⟨x, hx, hl⟩ := pw_nat a b c n hn; omega) w)
  have cU := fun w => Lib.hid (rUnpack_ok a b c n hn w)
  have cT := fun w => Lib.hid (rText_ok a b c n hn w)
  have cO := fun w => Lib.hid (ho w)
  clear kp hn hw ho
  generalize pw a b c n = v at *
  generalize tx a b c n = T at *
  go_enter Tryd.func3, Tryd.ntmps3
  go_wp2_with fail
  refine (cp _).out.mono ?_
  rintro e w1 ⟨rfl, hb1⟩
  have F := (FlAt.new w a3 b3 c3 n3 23).gr hb1
  have G := ((Gr.refl w).al (.cells #[.bool a3, .bool b3, .bool c3, .int .i64 n3] 23)).trans hb1
  clear hb1
  go_wp2_with fail
  refine (cu _).out.mono ?_
  rintro e w2 ⟨rfl, hb2⟩
  replace F := (F.gr hb2).gr ((Gr.refl w2).al (.cells #[.bool a, .bool b, .bool c, .int .i64 n] 23))
  have D := FlAt.new w2 a b c n 23
  replace G := (G.trans hb2).al (.cells #[.bool a, .bool b, .bool c, .int .i64 n] 23)
  clear hb2
  go_wp2_with fail
  refine (ct _ (ht.gr G)).out.mono ?_
  rintro e w3 ⟨rfl, hb3⟩
  replace F := F.gr hb3
  replace D := D.gr hb3
  replace G := G.trans hb3
  clear hb3
  go_wp2_with fail
  refine (cw _).out.mono ?_
  rintro e w4 ⟨rfl, hb4⟩
  replace F := F.gr hb4
  replace D := D.gr hb4
  replace G := G.trans hb4
  clear hb4
  go_wp2_with fail
  refine (alive3_ok _ (ht.gr G)).mono ?_
  rintro e w5 ⟨rfl, hb5⟩
  replace F := F.gr hb5
  replace D := D.gr hb5
  replace G := G.trans hb5
  clear hb5
  obtain ⟨f0, f1, f2, f3, f4⟩ := id F
  go_wp2_with fail
  rcases hk with ⟨rfl, rfl, km⟩ | ⟨rfl, km, kr⟩
  · have cm := fun w => Lib.hid (km w)
    clear km
    refine (cm _).out.mono ?_
    rintro e w6 ⟨rfl, hb6⟩
    replace D := D.gr hb6
    replace G := G.trans hb6
    clear hb6 f0 f1 f2 f3 f4
    go_wp2_with fail
    refine (cW _).out.mono ?_
    rintro e w8 ⟨rfl, rfl⟩
    obtain ⟨d0, d1, d2, d3, d4⟩ := D
    go_wp2_with fail
    go_region_held3 (fun w' => w'.cell? ⟨w2.heap.size, 0, none⟩ = some (.bool a) ∧ w'.cell? ⟨w2.heap.size, 1, none⟩ = some (.bool b) ∧ w'.cell? ⟨w2.heap.size, 2, none⟩ = some (.bool c) ∧ w'.cell? ⟨w2.heap.size, 3, none⟩ = some (.int .i64 n) ∧ w2.heap.size < w'.heap.size ∧ Gr w w') (first | exact ⟨d0, d1, d2, d3, d4, G.dr⟩ | (go_split_ands; exact ⟨(hb9.cell (p := ⟨w2.heap.size, 0, none⟩) (by assumption)).trans (by assumption), (hb9.cell (p := ⟨w2.heap.size, 1, none⟩) (by assumption)).trans (by assumption), (hb9.cell (p := ⟨w2.heap.size, 2, none⟩) (by assumption)).trans (by assumption), (hb9.cell (p := ⟨w2.heap.size, 3, none⟩) (by assumption)).trans (by assumption), Nat.lt_of_lt_of_le (by assumption) hb9.size, Gr.trans (by assumption) hb9⟩))
      (first
        | (go_at_call 15; refine (cU _).out.mono ?_; rintro ee w9 ⟨rfl, hb9⟩)
        | (go_at_call 16; refine (cT _).out.mono ?_; rintro ee w9 ⟨rfl, hb9⟩))
    rename_i hH
    obtain ⟨q0, q1, q2, q3, q4, q5⟩ := hH
    go_wp2_with fail
    refine (cO _).out.mono ?_
    rintro e w10 ⟨rfl, hb10⟩
    rcases hlast with ⟨rfl, rfl, rfl⟩ | ⟨rfl, rfl, h8⟩
    · go_wp2_with fail
      go_ret
      exact ⟨rfl, q5.trans hb10⟩
    · go_wp2_with fail
      go_ret
      exact ⟨rfl, q5.trans hb10⟩
  · have cm := fun w => Lib.hid (km w)
    have cr := fun w => Lib.hid (kr w)
    clear km kr
    refine (cm _).out.mono ?_
    rintro e w6 ⟨rfl, hb6⟩
    replace F := F.gr hb6
    replace D := D.gr hb6
    replace G := G.trans hb6
    clear hb6 f0 f1 f2 f3 f4
    obtain ⟨f0, f1, f2, f3, f4⟩ := id F
    go_wp2_with fail
    refine (cr _).out.mono ?_
    rintro e w7 ⟨rfl, hb7⟩
    replace D := D.gr hb7
    replace G := G.trans hb7
    clear hb7 f0 f1 f2 f3 f4
    go_wp2_with fail
    refine (cW _).out.mono ?_
    rintro e w8 ⟨rfl, rfl⟩
    obtain ⟨d0, d1, d2, d3, d4⟩ := D
    go_wp2_with fail
    go_region_held3 (fun w' => w'.cell? ⟨w2.heap.size, 0, none⟩ = some (.bool a) ∧ w'.cell? ⟨w2.heap.size, 1, none⟩ = some (.bool b) ∧ w'.cell? ⟨w2.heap.size, 2, none⟩ = some (.bool c) ∧ w'.cell? ⟨w2.heap.size, 3, none⟩ = some (.int .i64 n) ∧ w2.heap.size < w'.heap.size ∧ Gr w w') (first | exact ⟨d0, d1, d2, d3, d4, G.dr⟩ | (go_split_ands; exact ⟨(hb9.cell (p := ⟨w2.heap.size, 0, none⟩) (by assumption)).trans (by assumption), (hb9.cell (p := ⟨w2.heap.size, 1, none⟩) (by assumption)).trans (by assumption), (hb9.cell (p := ⟨w2.heap.size, 2, none⟩) (by assumption)).trans (by assumption), (hb9.cell (p := ⟨w2.heap.size, 3, none⟩) (by assumption)).trans (by assumption), Nat.lt_of_lt_of_le (by assumption) hb9.size, Gr.trans (by assumption) hb9⟩))
      (first
        | (go_at_call 15; refine (cU _).out.mono ?_; rintro ee w9 ⟨rfl, hb9⟩)
        | (go_at_call 16; refine (cT _).out.mono ?_; rintro ee w9 ⟨rfl, hb9⟩))
    rename_i hH
    obtain ⟨q0, q1, q2, q3, q4, q5⟩ := hH
    go_wp2_with fail
    refine (cO _).out.mono ?_
    rintro e w10 ⟨rfl, hb10⟩
    rcases hlast with ⟨rfl, rfl, rfl⟩ | ⟨rfl, rfl, h8⟩
    · go_wp2_with fail
      go_ret
      exact ⟨rfl, q5.trans hb10⟩
    · go_wp2_with fail
      go_ret
      exact ⟨rfl, q5.trans hb10⟩

theorem FlagsTell_walk (w : World) (ht : Tab w) (a3 b3 c3 : Bool) (n3 : Int) (h3 : -9223372036854775808 ≤ n3 ∧ n3 ≤ 9223372036854775807) (v : Int) (hv : -9223372036854775808 ≤ v ∧ v ≤ 9223372036854775807) (d : Int) (hd : -9223372036854775808 ≤ d ∧ d ≤ 9223372036854775807) :
    Calls Tryd.prog 3 #[fl a3 b3 c3 n3, .int .i64 v, .int .i64 d] w fun e w' => e = .returned (.bool true) ∧ Gr w w' := by
  obtain ⟨X, K, hk⟩ := tell_f a3 b3 c3 n3
  by_cases h : 0 ≤ v ∧ v < 2147483648
  · obtain ⟨a, b, c, n, rfl, hn⟩ := pw_of h
    by_cases ho : 0 ≤ n + d ∧ n + d < 268435456
    · have hm : wrap64 (n + d) = n + d := by unfold wrap64; omega
      refine tell_yes a3 b3 c3 n3 X K d hk a b c n (pw a b c (n + d)) 0 false hn (fun w => Waits_is a b c n d (n + d) _ 0 hn hm (fun w => Pack_ok a b c (n + d) ho w) _ _ (.inl ⟨rfl, rfl, rfl⟩) w) (fun w => ?_) (.inr ⟨rfl, rfl, over8 a b c n d hn ho⟩) w ht
      have := rOver_ok a b c n d hn hd w
      rw [decide_eq_false (by omega)] at this
      exact this
    · have hm : ¬ (0 ≤ wrap64 (n + d) ∧ wrap64 (n + d) < 268435456) := by unfold wrap64; omega
      refine tell_yes a3 b3 c3 n3 X K d hk a b c n 0 10 true hn (fun w => Waits_is a b c n d _ 0 1 hn rfl (fun w => Pack_no a b c _ hm w) _ _ (.inr ⟨rfl, rfl, rfl⟩) w) (fun w => ?_) (.inl ⟨rfl, rfl, rfl⟩) w ht
      have := rOver_ok a b c n d hn hd w
      rw [decide_eq_true (by omega)] at this
      exact this
  · exact tell_no a3 b3 c3 n3 X K v d hk h _ _ _ _ rfl rfl rfl rfl w ht

set_option maxRecDepth 100000 in
theorem FlagsTell_lifted (os : Os) (started : os.Started) (H : Type) (enc : TypeId × Value → H) :
    ReturnsInHanded {} Tryd.checked os 3 .any (fun w args => (Rows.flagsTellSpec.pre enc Tryd.prog Tryd.f3 Rows.flagsTellRow.domain false w args ∧ laidMetH Tryd.prog laid3 w) ∧ sizedMet enc Tryd.prog Tryd.f3 (OpenSpec.ofChange Rows.flagsTellSpec) false w args)
      (Rows.flagsTellSpec.post enc Tryd.prog Tryd.f3 false true false false) := by
  refine returnsInHanded_of_change_and (C := Tryd.checked) (X := fun w _ => laidMetH Tryd.prog laid3 w) (fun _ _ _ hh h => laidMetH.of_heap hh h) own started (by kernel_rfl) Tryd.func3
    (ChangeSpec.witness_at (enc := enc) (C := Tryd.checked) (os := os) (X := fun w _ => laidMetH Tryd.prog laid3 w) false (laidWorld os) #[fl false false false 0, .int .i64 0, .int .i64 0] 8 rfl (by kernel_rfl) (by kernel_rfl) (by kernel_rfl) (by kernel_rfl) (by kernel_rfl) (laidWorld_met3 os _)) ?_
  intro W base args ds gs before hval0 hW _ _ hL _
  have hval : ∀ (j : Nat) t v, Tryd.f3.params[j]? = some t → args[j]? = some v → Value.okWide Tryd.prog W .any base t v := hval0
  have hW' := hW
  obtain ⟨p, q, hA0, hV, rfl, hfz, hnd⟩ := hW
  have hA : DataW.TrodAll enc Tryd.prog W 0 (fun _ => true) true Tryd.f3.params.toList args.toList ds p := hA0
  rw [Tryd.params3] at hA hval
  have hK := hA
  obtain ⟨v0, vs0, d0, ds0, p0, q0, hargs, rfl, hp, h0, r0⟩ := trodAll_cons hA
  obtain ⟨v1, vs1, d1, ds1, p1, q1, rfl, rfl, rfl, h1, r1⟩ := trodAll_cons r0
  obtain ⟨v2, vs2, d2, ds2, p2, q2, rfl, rfl, rfl, h2, r2⟩ := trodAll_cons r1
  obtain ⟨rfl, rfl, rfl⟩ := trodAll_nil r2
  obtain rfl : args = #[v0, v1, v2] := by cases args; simp_all
  obtain ⟨rfl, rfl⟩ := trodVars_none hV
  obtain ⟨a0, b0, c0, n0, rfl, w0⟩ := open_flags (hval 0 23 v0 rfl rfl) h0
  obtain ⟨a1, rfl, rfl, rfl, w1⟩ := open_int Tryd.underlying3 (hval 1 3 v1 rfl rfl) h1
  obtain ⟨a2, rfl, rfl, rfl, w2⟩ := open_int Tryd.underlying3 (hval 2 3 v2 rfl rfl) h2
  clear hA0 hval0
  refine (FlagsTell_walk W (tab3 hL) a0 b0 c0 n0 w0 a1 (wfb w1) a2 (wfb w2)).mono fun e W' ⟨he, hg⟩ => ?_
  subst he
  exact ⟨_, rfl, post_below (pa := p) (pv := []) hW' (fun _ _ _ => (trodAll_cons_mk (shut_bool Tryd.underlying4 _) trodAll_mk0))
    (fun sp hs => trodAll_stays laidOut hg sp (by kernel_rfl) hK (fun x hx => hW'.lt x (List.mem_append_left _ hx)) (fun x hx => hs x (List.mem_append_left _ hx))) (fun _ _ => rfl) rfl
    hg (ok_one (by kernel_rfl) rfl (okWide_bool_mk Tryd.underlying4 _))⟩

theorem FlagsTell_over : Rows.flagsTellRow.holds Tryd.pinned (OpenSpec.ofChange Rows.flagsTellSpec) :=
  OpenClaim.holds_of_wide 3 Tryd.f3 rfl rfl rfl rfl rfl rfl rfl ⟨rfl, rfl, rfl, rfl, rfl⟩ rfl rfl rfl rfl rfl (by kernel_rfl) Tryd.func3 (by kernel_rfl)
    (of_decide_eq_true (by kernel_rfl)) (by unfold Func.isWrapper; first | (rw [if_pos (by decide +kernel)]; kernel_rfl) | (rw [if_neg (by decide +kernel)]; exact ⟨rfl, rfl⟩))
    (fun os started H enc _ => FlagsTell_lifted os started H enc)

/-- The statement: the tied card. -/
theorem FlagsTell_card : Rows.FlagsTellCardSaid :=
  Claim7.holds_tied_plain_at .later [] [.data, .data, .data] true _ true
    FlagsTell_over (fun _ h => by cases h) (by kernel_rfl) (fun _ h => by cases h) flagsTell_row_tie rfl ⟨rfl, rfl⟩ (by kernel_rfl) rfl
    (fun f fn hf hfn => by
      obtain rfl : f = 3 := Option.some.inj ((show Tryd.prog.funcNamed "deadbolt/deadboltlaw03.FlagsTell" = some 3 by kernel_rfl).symm.trans hf) |>.symm
      obtain rfl : fn = Tryd.f3 := (Option.some.inj (Tryd.func3.symm.trans hfn)).symm
      exact ⟨by kernel_rfl, fun j t ht => by
        rw [Tryd.params3] at ht
        have hm : t ∈ [23, 3, 3] := by
          have := Array.mem_of_getElem? ht
          simpa using this
        have hall : ([23, 3, 3] : List TypeId).all (fun t => Tryd.prog.wantsStandIn t == false) = true := by kernel_rfl
        have hw := List.all_eq_true.1 hall t hm
        exact beq_iff_eq.1 hw⟩)
    (by kernel_rfl)
#print axioms FlagsTell_card
end Go.Proofs.YtgcdnoceiemeoaaDoor
