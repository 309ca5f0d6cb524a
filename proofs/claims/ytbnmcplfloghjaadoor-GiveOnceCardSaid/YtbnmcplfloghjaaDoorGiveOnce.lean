/-
  GiveOnce: for every int, who wakes leaves the word woken, with one less who waits, and nobody is woken by that word; what is handed on is not woken for; what was locked is given without a fault, and what was not never, as long as the array of states holds what the program's text lays.
-/
import Derived.Test.YtbnmcplfloghjaaDoorGiveRef
import Derived.Test.YtbnmcplfloghjaaDoorGiveLaid
import Derived.Test.YtbnmcplfloghjaaDoorCards
import Derived.Test.YtbnmcplfloghjaaDoorTie
namespace Go.Proofs.YtbnmcplfloghjaaDoor
open Go.ChangeShapes Go.WideShapes Go.ChangeAt Go.RowKit Go.Joins
set_option linter.unusedVariables false
set_option linter.unusedSimpArgs false
set_option maxRecDepth 100000
namespace P15
open P3 (fl pw)

section
variable {a b c : Bool} {n v : Int} {w : World}
/-- What Left answers of a word that is not Locked, with 1 taken off: a fault. -/
theorem Left_odd (hg : Glob w) (hn : OkN n) : Calls Tryd.prog 5 #[.int .i64 (wrap64 (pw false b c n - 1))] w fun e w' => e = .returned (.tuple #[.bool false, .bool false, .int .i64 11]) ∧ Gr w w' := by
  obtain ⟨x, hx, hl⟩ := P3.pw_nat false b c n hn
  have hw : wrap64 (pw false b c n - 1) = pw false b c n - 1 := by unfold wrap64; omega
  rw [hw]
  by_cases h0 : pw false b c n = 0
  · rw [h0]
    exact Left_neg hg
  · obtain ⟨a', b', c', n', e, hn'⟩ := P3.pw_of (v := pw false b c n - 1) (by omega)
    have ha : a' = true := by
      have h1 := e
      unfold pw P3.b1 at h1
      cases a' with
      | true => rfl
      | false =>
        exfalso
        cases b <;> cases c <;> cases b' <;> cases c' <;> simp at h1 <;> omega
    subst ha
    rw [e]
    exact Left_held hg hn'
theorem less_one (hn : OkN n) : wrap64 (pw true b c n - 1) = pw false b c n := by
  obtain ⟨x, hx, hl⟩ := P3.pw_nat true b c n hn
  have : pw true b c n - 1 = pw false b c n := by unfold pw; cases b <;> cases c <;> simp [P3.b1] <;> omega
  rw [this] at *
  obtain ⟨y, hy, hm⟩ := P3.pw_nat false b c n hn
  unfold wrap64; omega
set_option maxHeartbeats 2000000 in
theorem once_no (hg : Glob w) (h : ¬ (0 ≤ v ∧ v < 2147483648)) :
    Calls Tryd.prog 4 #[.int .i64 v] w fun e w' => e = .returned (.bool true) ∧ Gr w w' := by
  have c2 := Lib.hid (Wakes_no (v := v) h (w := w))
  have c4 := fun W (g : Gr w W) => Lib.hid (alive_is (hg.gr g))
  clear h
  go_enter Tryd.func4, Tryd.ntmps4
  go_wp2_with fail
  with_reducible refine c2.out.mono ?_
  rintro e w1 ⟨rfl, g1⟩
  go_wp2_with fail
  with_reducible refine (c4 _ g1).out.mono ?_
  rintro e w4 ⟨rfl, g4'⟩
  have g4 := g1.trans g4'
  go_wp2_with fail
  go_ret
  exact ⟨rfl, g4⟩
set_option maxHeartbeats 4000000 in
/-- A word that is Locked. -/
theorem once_held (hg : Glob w) (hn : OkN n) {z k : Bool} {m : Int} (hz : (pw false b c n == 0) = z) (hz1 : (pw true b c n == 1) = z) (hk : (c && k) = false)
    (K : ∀ W, Gr w W → Calls Tryd.prog 6 #[.int .i64 (pw false b c n)] W fun e w' => e = .returned (.tuple #[.bool k, .int .i64 m, .int .i64 0]) ∧ Gr W w') :
    Calls Tryd.prog 4 #[.int .i64 (pw true b c n)] w fun e w' => e = .returned (.bool true) ∧ Gr w w' := by
  have c1 := Lib.hid (Wakes_none (w := w) (a := true) (b := b) (c := c) (n := n) hg hn (.inr (by unfold st; simp)))
  have c2 := fun W => Lib.hid (P3.Unpack_ok true b c n hn W)
  have c3 := fun W (g : Gr w W) => Lib.hid (Left_free (hg.gr g) hn hz)
  have c4 := fun W (g : Gr w W) => Lib.hid (alive_is (hg.gr g))
  have c5 := fun W (g : Gr w W) => Lib.hid (K W g)
  have hl := less_one (b := b) (c := c) hn
  clear hz hn K
  generalize pw true b c n = v at *
  generalize pw false b c n = u at *
  cases c <;> cases k <;> first | (exact absurd hk (by decide)) | skip
  all_goals (
    go_enter Tryd.func4, Tryd.ntmps4
    go_wp2_with fail
    with_reducible refine c1.out.mono ?_
    rintro e w1 ⟨rfl, g1⟩
    go_wp2_with fail
    with_reducible refine (c2 _).out.mono ?_
    rintro e w2 ⟨rfl, g2'⟩
    have g2 := fun o => (g1.trans g2').al o
    have N2 := fun C => Blk.new w2 #[.bool true, .bool b, .bool C, .int .i64 n] 32
    go_wp2_with fail
    with_reducible refine (c3 _ (g2 _)).out.mono ?_
    rintro e w3 ⟨rfl, g3'⟩
    have g3 := (g2 _).trans g3'
    have B3 := (N2 _).gr g3'
    have l3 := B3.lt
    have q3 := (B3.at_ (k := 0) (v := .bool true) rfl).1
    go_wp2_with fail
    with_reducible refine (c4 _ g3).out.mono ?_
    rintro e w4 ⟨rfl, g4'⟩
    have g4 := g3.trans g4'
    have B4 := B3.gr g4'
    have l4 := B4.lt
    have q4 := (B4.at_ (k := 0) (v := .bool true) rfl).1
    clear q3 l3
    go_wp2_with fail
    with_reducible refine (c3 _ g4).out.mono ?_
    rintro e w5 ⟨rfl, g5'⟩
    have g5 := g4.trans g5'
    have B5 := B4.gr g5'
    have l5 := B5.lt
    have q5 := (B5.at_ (k := 2) rfl).1
    clear q4 l4
    go_wp2_with fail
    with_reducible refine (c5 _ g5).out.mono ?_
    rintro e w6 ⟨rfl, g6'⟩
    have g6 := g5.trans g6'
    have B6 := B5.gr g6'
    have l6 := B6.lt
    have q6 := (B6.at_ (k := 0) (v := .bool true) rfl).1
    have q7 := (B6.at_ (k := 3) (v := .int .i64 n) rfl).1
    clear q5 l5 B3 B4 B5
    go_wp2_with fail
    all_goals (go_ret; exact ⟨rfl, g6⟩))
set_option maxHeartbeats 4000000 in
/-- A word that is not Locked, and nobody is woken. -/
theorem once_none (hg : Glob w) (hn : OkN n) (h : n = 0 ∨ st false b c ≠ 0) :
    Calls Tryd.prog 4 #[.int .i64 (pw false b c n)] w fun e w' => e = .returned (.bool true) ∧ Gr w w' := by
  have c1 := Lib.hid (Wakes_none (w := w) (a := false) (b := b) (c := c) (n := n) hg hn h)
  have c2 := fun W => Lib.hid (P3.Unpack_ok false b c n hn W)
  have c3 := fun W (g : Gr w W) => Lib.hid (Left_odd (b := b) (c := c) (hg.gr g) hn)
  have c4 := fun W (g : Gr w W) => Lib.hid (alive_is (hg.gr g))
  have hs : (n == 0 || b || c) = true := by
    revert h
    unfold st
    by_cases h0 : n = 0
    · simp [h0]
    · cases b <;> cases c <;> simp [h0]
  obtain ⟨h0, hh0⟩ : ∃ x, (n == 0) = x := ⟨_, rfl⟩
  rw [hh0] at hs
  clear h hn
  generalize pw false b c n = v at *
  cases h0 <;> cases b <;> cases c <;> first | (exact absurd hs (by decide)) | skip
  all_goals (
    clear hs
    go_enter Tryd.func4, Tryd.ntmps4
    go_wp2_with fail
    with_reducible refine c1.out.mono ?_
    rintro e w1 ⟨rfl, g1⟩
    go_wp2_with fail
    with_reducible refine (c2 _).out.mono ?_
    rintro e w2 ⟨rfl, g2'⟩
    have N2 := fun A B C => (Blk.new w2 #[.bool A, .bool B, .bool C, .int .i64 n] 32)
    have g2 := fun o => (g1.trans g2').al o
    go_wp2_with fail
    with_reducible refine (c3 _ (g2 _)).out.mono ?_
    rintro e w3 ⟨rfl, g3'⟩
    have g3 := (g2 _).trans g3'
    have B3 := (N2 _ _ _).gr g3'
    have l3 := B3.lt
    have q3 := (B3.at_ (k := 0) rfl).1
    go_wp2_with fail
    with_reducible refine (c4 _ g3).out.mono ?_
    rintro e w4 ⟨rfl, g4'⟩
    have g4 := g3.trans g4'
    have B4 := B3.gr g4'
    have l4 := B4.lt
    have q4 := (B4.at_ (k := 0) rfl).1
    have q5 := (B4.at_ (k := 1) rfl).1
    have q6 := (B4.at_ (k := 2) rfl).1
    have q7 := (B4.at_ (k := 3) rfl).1
    clear q3 l3 B3 B4
    go_wp2_with fail
    go_ret
    exact ⟨rfl, g4⟩)
set_option maxHeartbeats 4000000 in
/-- A word that is not Locked, and somebody is woken. -/
theorem once_wakes (hg : Glob w) (hn : OkN n) (h0 : 0 < n) :
    Calls Tryd.prog 4 #[.int .i64 (pw false false false n)] w fun e w' => e = .returned (.bool true) ∧ Gr w w' := by
  obtain ⟨m, hm⟩ : ∃ m, n - 1 = m := ⟨_, rfl⟩
  have hm' : OkN m := by unfold OkN at *; omega
  have c1 := Lib.hid (Wakes_yes (w := w) (n := n) hg hn h0 hm)
  have c2 := fun W => Lib.hid (P3.Unpack_ok false false false n hn W)
  have c3 := fun W (g : Gr w W) => Lib.hid (Left_odd (b := false) (c := false) (hg.gr g) hn)
  have c4 := fun W (g : Gr w W) => Lib.hid (alive_is (hg.gr g))
  have c5 := fun W => Lib.hid (P3.Unpack_ok false true false m hm' W)
  have c6 := fun W (g : Gr w W) => Lib.hid (Wakes_none (w := W) (a := false) (b := true) (c := false) (n := m) (hg.gr g) hm' (.inr (by decide)))
  have hl : wrap64 (n - 1) = m := by unfold OkN at *; unfold wrap64; omega
  clear hn h0 hm hm'
  generalize pw false false false n = v at *
  generalize pw false true false m = u at *
  go_enter Tryd.func4, Tryd.ntmps4
  go_wp2_with fail
  with_reducible refine c1.out.mono ?_
  rintro e w1 ⟨rfl, g1⟩
  go_wp2_with fail
  with_reducible refine (c2 _).out.mono ?_
  rintro e w2 ⟨rfl, g2'⟩
  have g2 := (g1.trans g2').al (.cells #[.bool false, .bool false, .bool false, .int .i64 n] 32)
  have B2 := Blk.new w2 #[.bool false, .bool false, .bool false, .int .i64 n] 32
  go_wp2_with fail
  with_reducible refine (c3 _ g2).out.mono ?_
  rintro e w3 ⟨rfl, g3'⟩
  have g3 := g2.trans g3'
  have B3 := B2.gr g3'
  have l3 := B3.lt
  have q3 := (B3.at_ (k := 0) (v := .bool false) rfl).1
  go_wp2_with fail
  with_reducible refine (c4 _ g3).out.mono ?_
  rintro e w4 ⟨rfl, g4'⟩
  have g4 := g3.trans g4'
  have B4 := B3.gr g4'
  have l4 := B4.lt
  have q4 := (B4.at_ (k := 0) (v := .bool false) rfl).1
  clear q3 l3
  go_wp2_with fail
  with_reducible refine (c5 _).out.mono ?_
  rintro e w5 ⟨rfl, g5'⟩
  have g5 := (g4.trans g5').al (.cells #[.bool false, .bool true, .bool false, .int .i64 m] 32)
  have B5 := (B4.gr g5').al (.cells #[.bool false, .bool true, .bool false, .int .i64 m] 32)
  have C5 := Blk.new w5 #[.bool false, .bool true, .bool false, .int .i64 m] 32
  clear q4 l4
  go_wp2_with fail
  with_reducible refine (c6 _ g5).out.mono ?_
  rintro e w6 ⟨rfl, g6'⟩
  have g6 := g5.trans g6'
  have B6 := B5.gr g6'
  have C6 := C5.gr g6'
  have l6 := B6.lt
  have k6 := C6.lt
  have q7 := (B6.at_ (k := 3) (v := .int .i64 n) rfl).1
  have p0 := (C6.at_ (k := 0) (v := .bool false) rfl).1
  have p1 := (C6.at_ (k := 1) (v := .bool true) rfl).1
  have p2 := (C6.at_ (k := 2) (v := .bool false) rfl).1
  have p3 := (C6.at_ (k := 3) (v := .int .i64 m) rfl).1
  clear B2 B3 B4 B5 C5
  go_wp2_with fail
  go_ret
  exact ⟨rfl, g6⟩
theorem GiveOnce_walk (hg : Glob w) {at_0 : Int} (h : -9223372036854775808 ≤ at_0 ∧ at_0 ≤ 9223372036854775807) :
    Calls Tryd.prog 4 #[.int .i64 at_0] w fun e w' => e = .returned (.bool true) ∧ Gr w w' := by
  by_cases hw : 0 ≤ at_0 ∧ at_0 < 2147483648
  · obtain ⟨a, b, c, n, rfl, hn⟩ := P3.pw_of hw
    by_cases hk : n = 0 ∨ st false b c ≠ 0
    · cases a
      · exact once_none hg hn hk
      · refine once_held hg hn (k := false) (m := 0) rfl ?_ (by cases c <;> rfl) (fun W g => Wakes_none (hg.gr g) hn hk)
        rw [Bool.eq_iff_iff]
        simp only [beq_iff_eq]
        unfold pw P3.b1
        cases b <;> cases c <;> simp <;> omega
    · have hs : st false b c = 0 := Classical.byContradiction fun h => hk (.inr h)
      have hn0 : 0 < n := by
        have : n ≠ 0 := fun h => hk (.inl h)
        have := hn.1
        omega
      obtain ⟨rfl, rfl⟩ : b = false ∧ c = false := by
        cases b <;> cases c <;> first | exact ⟨rfl, rfl⟩ | exact absurd hs (by decide)
      cases a
      · exact once_wakes hg hn hn0
      · refine once_held hg hn (k := true) rfl ?_ rfl (fun W g => Wakes_yes (hg.gr g) hn hn0 rfl)
        rw [Bool.eq_iff_iff]
        simp only [beq_iff_eq]
        unfold pw P3.b1
        simp <;> omega
  · exact once_no hg hw
end
end P15
set_option maxRecDepth 100000 in
theorem GiveOnce_lifted (os : Os) (started : os.Started) (H : Type) (enc : TypeId × Value → H) :
    ReturnsInHanded {} Tryd.checked os 4 .any (fun w args => (Rows.giveOnceSpec.pre enc Tryd.prog Tryd.f4 Rows.giveOnceRow.domain false w args ∧ laidMetH Tryd.prog P15.laidL w) ∧ sizedMet enc Tryd.prog Tryd.f4 (OpenSpec.ofChange Rows.giveOnceSpec) false w args)
      (Rows.giveOnceSpec.post enc Tryd.prog Tryd.f4 false true false false) := by
  refine LW.returns_laid_shaped (C := Tryd.checked) (X := fun w _ => laidMetH Tryd.prog P15.laidL w) (fun _ _ _ hh h => laidMetH.of_heap hh h) own started (by kernel_rfl) Tryd.func4
    (ChangeSpec.witness_shaped (enc := enc) (C := Tryd.checked) (os := os) (X := fun w _ => laidMetH Tryd.prog P15.laidL w) false (World.laidAll Tryd.prog os P15.laidL) #[.int .i64 0] 8 (World.laidAll_os _ _ _) (P15.laidL_shaped os _) (by kernel_rfl) (by kernel_rfl) (by kernel_rfl) (P15.laidL_met os _)) ?_
  intro W base args ds gs before hval0 hW hL hS
  have hval : ∀ (j : Nat) t v, Tryd.f4.params[j]? = some t → args[j]? = some v → Value.okWide Tryd.prog W .any base t v := hval0
  have hW' := hW
  obtain ⟨p, q, hA0, hV, rfl, hfz, hnd⟩ := hW
  have hA : DataW.TrodAll enc Tryd.prog W 0 (fun _ => true) true Tryd.f4.params.toList args.toList ds p := hA0
  rw [Tryd.params4] at hA hval
  have hK := hA
  obtain ⟨v0, vs0, d0, ds0, p0, q0, hargs, rfl, hp, h0, r0⟩ := trodAll_cons hA
  obtain ⟨rfl, rfl, rfl⟩ := trodAll_nil r0
  obtain rfl : args = #[v0] := by cases args; simp_all
  obtain ⟨rfl, rfl⟩ := trodVars_none hV
  obtain ⟨a0, rfl, rfl, rfl, w0⟩ := open_int Tryd.underlying3 (hval 0 3 v0 rfl rfl) h0
  clear hA0 hval0
  refine (P15.GiveOnce_walk (P15.globL hL hS) (at_0 := a0) (wfb w0)).mono fun e W' ⟨he, hg⟩ => ?_
  subst he
  exact ⟨_, rfl, post_below (pa := p) (pv := []) hW' (fun _ _ _ => (trodAll_cons_mk (shut_bool Tryd.underlying4 _) trodAll_mk0))
    (fun sp hs => trodAll_stays laidOut hg sp (by kernel_rfl) hK (fun x hx => hW'.lt x (List.mem_append_left _ hx)) (fun x hx => hs x (List.mem_append_left _ hx))) (fun _ _ => rfl) rfl
    hg (ok_one (by kernel_rfl) rfl (okWide_bool_mk Tryd.underlying4 _))⟩

theorem GiveOnce_over : Rows.giveOnceRow.holds Tryd.pinned (OpenSpec.ofChange Rows.giveOnceSpec) :=
  OpenClaim.holds_of_wide 4 Tryd.f4 rfl rfl rfl rfl rfl rfl rfl ⟨rfl, rfl, rfl, rfl, rfl⟩ rfl rfl rfl rfl rfl (by kernel_rfl) Tryd.func4 (by kernel_rfl)
    (of_decide_eq_true (by kernel_rfl)) (by unfold Func.isWrapper; first | (rw [if_pos (by decide +kernel)]; kernel_rfl) | (rw [if_neg (by decide +kernel)]; exact ⟨rfl, rfl⟩))
    (fun os started H enc _ => GiveOnce_lifted os started H enc)

/-- The statement: the tied card. -/
theorem GiveOnce_card : Rows.GiveOnceCardSaid :=
  Claim7.holds_tied_plain_at .later [] [.data] true _ false
    GiveOnce_over (fun _ h => by cases h) (by kernel_rfl) (fun _ h => by cases h) giveOnce_row_tie rfl ⟨rfl, rfl⟩ (by kernel_rfl) rfl
    (fun f fn hf hfn => by
      obtain rfl : f = 4 := Option.some.inj ((show Tryd.prog.funcNamed "deadbolt/deadboltlaw15.GiveOnce" = some 4 by kernel_rfl).symm.trans hf) |>.symm
      obtain rfl : fn = Tryd.f4 := (Option.some.inj (Tryd.func4.symm.trans hfn)).symm
      exact ⟨by kernel_rfl, fun j t ht => by
        rw [Tryd.params4] at ht
        have hm : t ∈ [3] := by
          have := Array.mem_of_getElem? ht
          simpa using this
        have hall : ([3] : List TypeId).all (fun t => Tryd.prog.wantsStandIn t == false) = true := by kernel_rfl
        have hw := List.all_eq_true.1 hall t hm
        exact beq_iff_eq.1 hw⟩)
    (by kernel_rfl)
#print axioms GiveOnce_card
end Go.Proofs.YtbnmcplfloghjaaDoor
