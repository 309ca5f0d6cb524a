/-
  GiveTells: for every int, what Left and Wakes answer is as the document's own answer says, as long as the array of states holds what the program's text lays.
-/
import Derived.Test.YtbnmcplfloghjaaDoorGiveRef
import Derived.Test.YtbnmcplfloghjaaDoorGiveLaid
import Derived.Test.YtbnmcplfloghjaaDoorCards
import Derived.Test.YtbnmcplfloghjaaDoorTie
namespace Go.Proofs.YtbnmcplfloghjaaDoor
open Go.ChangeShapes Go.WideShapes Go.ChangeAt Go.RowKit Go.Joins
set_option linter.unusedVariables false
set_option linter.unusedSimpArgs false
namespace P15
open P3 (fl pw)

section
variable {a b c : Bool} {n v : Int} {w : World}
set_option maxHeartbeats 2000000 in
theorem tells_no (hg : Glob w) {d o : Bool} {x : Int} (h : ¬ (0 ≤ v ∧ v < 2147483648))
    (L : ∀ W, Gr w W → Calls Tryd.prog 5 #[.int .i64 v] W fun e w' => e = .returned (.tuple #[.bool d, .bool o, .int .i64 x]) ∧ Gr W w')
    (R : ∀ W, Gr w W → Calls Tryd.prog 7 #[.int .i64 v] W fun e w' => e = .returned (.tuple #[.bool d, .bool o, .int .i64 x]) ∧ Gr W w') :
    Calls Tryd.prog 3 #[.int .i64 v] w fun e w' => e = .returned (.bool true) ∧ Gr w w' := by
  have c1 := Lib.hid (L w (Gr.refl w))
  have c2 := fun W => Lib.hid (Wakes_no (v := v) h (w := W))
  have c3 := fun W (g : Gr w W) => Lib.hid (R W g)
  have c4 := fun W (g : Gr w W) => Lib.hid (alive_is (hg.gr g))
  have c5 := fun W => Lib.hid (P3.rWord_no v h W)
  clear h L R
  go_enter Tryd.func3, Tryd.ntmps3
  go_wp2_with fail
  with_reducible refine c1.out.mono ?_
  rintro e w1 ⟨rfl, g1⟩
  go_wp2_with fail
  with_reducible refine (c2 _).out.mono ?_
  rintro e w2 ⟨rfl, g2'⟩
  have g2 := g1.trans g2'
  go_wp2_with fail
  with_reducible refine (c3 _ g2).out.mono ?_
  rintro e w3 ⟨rfl, g3'⟩
  have g3 := g2.trans g3'
  go_wp2_with fail
  with_reducible refine (c4 _ g3).out.mono ?_
  rintro e w4 ⟨rfl, g4'⟩
  have g4 := g3.trans g4'
  go_wp2_with fail
  with_reducible refine (c5 _).out.mono ?_
  rintro e w5 ⟨rfl, rfl⟩
  go_wp2_with fail
  go_ret
  exact ⟨rfl, g4⟩
set_option maxHeartbeats 2000000 in
theorem tells_word (hg : Glob w) {d o k : Bool} {x m : Int} (h : 0 ≤ v ∧ v < 2147483648)
    (L : ∀ W, Gr w W → Calls Tryd.prog 5 #[.int .i64 v] W fun e w' => e = .returned (.tuple #[.bool d, .bool o, .int .i64 x]) ∧ Gr W w')
    (R : ∀ W, Gr w W → Calls Tryd.prog 7 #[.int .i64 v] W fun e w' => e = .returned (.tuple #[.bool d, .bool o, .int .i64 x]) ∧ Gr W w')
    (K : ∀ W, Gr w W → Calls Tryd.prog 6 #[.int .i64 v] W fun e w' => e = .returned (.tuple #[.bool k, .int .i64 m, .int .i64 0]) ∧ Gr W w')
    (RK : ∀ W, Gr w W → Calls Tryd.prog 10 #[.int .i64 v] W fun e w' => e = .returned (.tuple #[.bool k, .int .i64 m]) ∧ Gr W w') :
    Calls Tryd.prog 3 #[.int .i64 v] w fun e w' => e = .returned (.bool true) ∧ Gr w w' := by
  have c1 := Lib.hid (L w (Gr.refl w))
  have c2 := fun W (g : Gr w W) => Lib.hid (K W g)
  have c3 := fun W (g : Gr w W) => Lib.hid (R W g)
  have c4 := fun W (g : Gr w W) => Lib.hid (alive_is (hg.gr g))
  have c5 := fun W => Lib.hid (P3.rWord_yes v h W)
  have c6 := fun W (g : Gr w W) => Lib.hid (RK W g)
  clear h L R K RK
  go_enter Tryd.func3, Tryd.ntmps3
  go_wp2_with fail
  with_reducible refine c1.out.mono ?_
  rintro e w1 ⟨rfl, g1⟩
  go_wp2_with fail
  with_reducible refine (c2 _ g1).out.mono ?_
  rintro e w2 ⟨rfl, g2'⟩
  have g2 := g1.trans g2'
  go_wp2_with fail
  with_reducible refine (c3 _ g2).out.mono ?_
  rintro e w3 ⟨rfl, g3'⟩
  have g3 := g2.trans g3'
  go_wp2_with fail
  with_reducible refine (c4 _ g3).out.mono ?_
  rintro e w4 ⟨rfl, g4'⟩
  have g4 := g3.trans g4'
  go_wp2_with fail
  with_reducible refine (c5 _).out.mono ?_
  rintro e w5 ⟨rfl, rfl⟩
  go_wp2_with fail
  with_reducible refine (c6 _ g4).out.mono ?_
  rintro e w6 ⟨rfl, g6'⟩
  have g6 := g4.trans g6'
  go_wp2_with fail
  go_ret
  exact ⟨rfl, g6⟩
theorem GiveTells_walk (hg : Glob w) {at_0 : Int} (h : -9223372036854775808 ≤ at_0 ∧ at_0 ≤ 9223372036854775807) :
    Calls Tryd.prog 3 #[.int .i64 at_0] w fun e w' => e = .returned (.bool true) ∧ Gr w w' := by
  by_cases hw : 0 ≤ at_0 ∧ at_0 < 2147483648
  · have hw' := hw
    obtain ⟨a, b, c, n, rfl, hn⟩ := P3.pw_of hw
    by_cases hk : n = 0 ∨ st a b c ≠ 0
    · cases a
      · exact tells_word hg hw' (fun W g => Left_free (hg.gr g) hn rfl) (fun W g => rLeft_free hn rfl) (fun W g => Wakes_none (hg.gr g) hn hk) (fun W g => rWakes_none hn hk)
      · exact tells_word hg hw' (fun W g => Left_held (hg.gr g) hn) (fun W g => rLeft_held hn) (fun W g => Wakes_none (hg.gr g) hn hk) (fun W g => rWakes_none hn hk)
    · have hs : st a b c = 0 := Classical.byContradiction fun h => hk (.inr h)
      have hn0 : 0 < n := by
        have : n ≠ 0 := fun h => hk (.inl h)
        have := hn.1
        omega
      obtain ⟨rfl, rfl, rfl⟩ : a = false ∧ b = false ∧ c = false := by
        cases a <;> cases b <;> cases c <;> first | exact ⟨rfl, rfl, rfl⟩ | exact absurd hs (by decide)
      exact tells_word hg hw' (fun W g => Left_free (hg.gr g) hn rfl) (fun W g => rLeft_free hn rfl) (fun W g => Wakes_yes (hg.gr g) hn hn0 rfl) (fun W g => rWakes_yes hn hn0 rfl)
  · by_cases h1 : at_0 = -1
    · subst h1
      exact tells_no hg hw (fun W g => Left_neg (hg.gr g)) (fun W g => rLeft_neg)
    · exact tells_no hg hw (fun W g => Left_no hw h1) (fun W g => rLeft_no hw h1)
end
end P15
set_option maxRecDepth 100000 in
theorem GiveTells_lifted (os : Os) (started : os.Started) (H : Type) (enc : TypeId × Value → H) :
    ReturnsInHanded {} Tryd.checked os 3 .any (fun w args => (Rows.giveTellsSpec.pre enc Tryd.prog Tryd.f3 Rows.giveTellsRow.domain false w args ∧ laidMetH Tryd.prog P15.laidL w) ∧ sizedMet enc Tryd.prog Tryd.f3 (OpenSpec.ofChange Rows.giveTellsSpec) false w args)
      (Rows.giveTellsSpec.post enc Tryd.prog Tryd.f3 false true false false) := by
  refine LW.returns_laid_shaped (C := Tryd.checked) (X := fun w _ => laidMetH Tryd.prog P15.laidL w) (fun _ _ _ hh h => laidMetH.of_heap hh h) own started (by kernel_rfl) Tryd.func3
    (ChangeSpec.witness_shaped (enc := enc) (C := Tryd.checked) (os := os) (X := fun w _ => laidMetH Tryd.prog P15.laidL w) false (World.laidAll Tryd.prog os P15.laidL) #[.int .i64 0] 8 (World.laidAll_os _ _ _) (P15.laidL_shaped os _) (by kernel_rfl) (by kernel_rfl) (by kernel_rfl) (P15.laidL_met os _)) ?_
  intro W base args ds gs before hval0 hW hL hS
  have hval : ∀ (j : Nat) t v, Tryd.f3.params[j]? = some t → args[j]? = some v → Value.okWide Tryd.prog W .any base t v := hval0
  have hW' := hW
  obtain ⟨p, q, hA0, hV, rfl, hfz, hnd⟩ := hW
  have hA : DataW.TrodAll enc Tryd.prog W 0 (fun _ => true) true Tryd.f3.params.toList args.toList ds p := hA0
  rw [Tryd.params3] at hA hval
  have hK := hA
  obtain ⟨v0, vs0, d0, ds0, p0, q0, hargs, rfl, hp, h0, r0⟩ := trodAll_cons hA
  obtain ⟨rfl, rfl, rfl⟩ := trodAll_nil r0
  obtain rfl : args = #[v0] := by cases args; simp_all
  obtain ⟨rfl, rfl⟩ := trodVars_none hV
  obtain ⟨a0, rfl, rfl, rfl, w0⟩ := open_int Tryd.underlying3 (hval 0 3 v0 rfl rfl) h0
  clear hA0 hval0
  refine (P15.GiveTells_walk (P15.globL hL hS) (at_0 := a0) (wfb w0)).mono fun e W' ⟨he, hg⟩ => ?_
  subst he
  exact ⟨_, rfl, post_below (pa := p) (pv := []) hW' (fun _ _ _ => (trodAll_cons_mk (shut_bool Tryd.underlying4 _) trodAll_mk0))
    (fun sp hs => trodAll_stays laidOut hg sp (by kernel_rfl) hK (fun x hx => hW'.lt x (List.mem_append_left _ hx)) (fun x hx => hs x (List.mem_append_left _ hx))) (fun _ _ => rfl) rfl
    hg (ok_one (by kernel_rfl) rfl (okWide_bool_mk Tryd.underlying4 _))⟩

theorem GiveTells_over : Rows.giveTellsRow.holds Tryd.pinned (OpenSpec.ofChange Rows.giveTellsSpec) :=
  OpenClaim.holds_of_wide 3 Tryd.f3 rfl rfl rfl rfl rfl rfl rfl ⟨rfl, rfl, rfl, rfl, rfl⟩ rfl rfl rfl rfl rfl (by kernel_rfl) Tryd.func3 (by kernel_rfl)
    (of_decide_eq_true (by kernel_rfl)) (by unfold Func.isWrapper; first | (rw [if_pos (by decide +kernel)]; kernel_rfl) | (rw [if_neg (by decide +kernel)]; exact ⟨rfl, rfl⟩))
    (fun os started H enc _ => GiveTells_lifted os started H enc)

/-- The statement: the tied card. -/
theorem GiveTells_card : Rows.GiveTellsCardSaid :=
  Claim7.holds_tied_plain_at .later [] [.data] true _ false
    GiveTells_over (fun _ h => by cases h) (by kernel_rfl) (fun _ h => by cases h) giveTells_row_tie rfl ⟨rfl, rfl⟩ (by kernel_rfl) rfl
    (fun f fn hf hfn => by
      obtain rfl : f = 3 := Option.some.inj ((show Tryd.prog.funcNamed "deadbolt/deadboltlaw15.GiveTells" = some 3 by kernel_rfl).symm.trans hf) |>.symm
      obtain rfl : fn = Tryd.f3 := (Option.some.inj (Tryd.func3.symm.trans hfn)).symm
      exact ⟨by kernel_rfl, fun j t ht => by
        rw [Tryd.params3] at ht
        have hm : t ∈ [3] := by
          have := Array.mem_of_getElem? ht
          simpa using this
        have hall : ([3] : List TypeId).all (fun t => Tryd.prog.wantsStandIn t == false) = true := by kernel_rfl
        have hw := List.all_eq_true.1 hall t hm
        exact beq_iff_eq.1 hw⟩)
    (by kernel_rfl)
#print axioms GiveTells_card
end Go.Proofs.YtbnmcplfloghjaaDoor
