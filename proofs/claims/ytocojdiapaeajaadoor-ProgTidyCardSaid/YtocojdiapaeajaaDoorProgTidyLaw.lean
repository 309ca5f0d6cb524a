/-
  Proved: deadboltlaw12.ProgTidy returns true at every input (two tidy programs, one behind the other, are tidy, and so is one within whose work more is done; with a mutex that is locked, and not unlocked, it is not). A tied card: the listed variables start as the program's text lays them. No other condition.
-/
import Derived.Test.YtocojdiapaeajaaDoorProgTidy
import Derived.Test.YtocojdiapaeajaaDoorProgLaid
import Derived.Test.YtocojdiapaeajaaDoorCards
import Derived.Test.YtocojdiapaeajaaDoorTie
namespace Go.Proofs.YtocojdiapaeajaaDoor
open Go.ChangeShapes Go.WideShapes Go.ChangeAt Go.RowKit Go.Joins
set_option linter.unusedVariables false
set_option linter.unusedSimpArgs false

set_option maxRecDepth 100000 in
theorem ProgTidy_lifted (os : Os) (started : os.Started) (H : Type) (enc : TypeId × Value → H) :
    ReturnsInHanded {} Tryd.checked os 6 .any (fun w args => (Rows.progTidySpec.pre enc Tryd.prog Tryd.f6 Rows.progTidyRow.domain false w args ∧ laidMetH Tryd.prog P12.laid8 w) ∧ sizedMet enc Tryd.prog Tryd.f6 (OpenSpec.ofChange Rows.progTidySpec) false w args)
      (Rows.progTidySpec.post enc Tryd.prog Tryd.f6 false true false false) := by
  refine P12.returns_laid_shaped (C := Tryd.checked) (X := fun w _ => laidMetH Tryd.prog P12.laid8 w) (fun _ _ _ hh h => laidMetH.of_heap hh h) own started (by kernel_rfl) Tryd.func6
    (ChangeSpec.witness_shaped (enc := enc) (C := Tryd.checked) (os := os) (X := fun w _ => laidMetH Tryd.prog P12.laid8 w) false (World.laidAll Tryd.prog os P12.laid8) #[.slice none 0 0, .slice none 0 0, .int .i64 0, .int .i64 0] 8 (World.laidAll_os _ _ _) (P12.laid8_shaped os _) (by kernel_rfl) (by kernel_rfl) (by kernel_rfl) (P12.laid8_met os _)) ?_
  intro W base args ds gs before hval0 hW hL hS
  have hval : ∀ (j : Nat) t v, Tryd.f6.params[j]? = some t → args[j]? = some v → Value.okWide Tryd.prog W .any base t v := hval0
  have hW' := hW
  obtain ⟨p, q, hA0, hV, rfl, hfz, hnd⟩ := hW
  have hA : DataW.TrodAll enc Tryd.prog W 0 (fun _ => true) true Tryd.f6.params.toList args.toList ds p := hA0
  rw [Tryd.params6] at hA hval
  have hK := hA
  obtain ⟨v0, vs0, d0, ds0, p0, q0, hargs, rfl, hp, h0, r0⟩ := trodAll_cons hA
  obtain ⟨v1, vs1, d1, ds1, p1, q1, rfl, rfl, rfl, h1, r1⟩ := trodAll_cons r0
  obtain ⟨v2, vs2, d2, ds2, p2, q2, rfl, rfl, rfl, h2, r2⟩ := trodAll_cons r1
  obtain ⟨v3, vs3, d3, ds3, p3, q3, rfl, rfl, rfl, h3, r3⟩ := trodAll_cons r2
  obtain ⟨rfl, rfl, rfl⟩ := trodAll_nil r3
  obtain rfl : args = #[v0, v1, v2, v3] := by cases args; simp_all
  obtain ⟨rfl, rfl⟩ := trodVars_none hV
  obtain ⟨x0, rfl, hx0⟩ := P12.open_acts (hval 0 32 v0 rfl rfl) h0
  obtain ⟨x1, rfl, hx1⟩ := P12.open_acts (hval 1 32 v1 rfl rfl) h1
  obtain ⟨a2, rfl, rfl, rfl, w2⟩ := open_int Tryd.underlying3 (hval 2 3 v2 rfl rfl) h2
  obtain ⟨a3, rfl, rfl, rfl, w3⟩ := open_int Tryd.underlying3 (hval 3 3 v3 rfl rfl) h3
  clear hA0 hval0
  refine (P12.ProgTidy_walk (P12.glob8 hL hS) (x := x0) (y := x1) (at_ := a2) (n := a3) hx0 hx1 (wfb w3)).mono fun e W' ⟨he, hg⟩ => ?_
  subst he
  exact ⟨_, rfl, post_below (pa := p) (pv := []) hW' (fun _ _ _ => (trodAll_cons_mk (shut_bool Tryd.underlying4 _) trodAll_mk0))
    (fun sp hs => trodAll_stays laidOut hg sp (by kernel_rfl) hK (fun x hx => hW'.lt x (List.mem_append_left _ hx)) (fun x hx => hs x (List.mem_append_left _ hx))) (fun _ _ => rfl) rfl
    hg (ok_one (by kernel_rfl) rfl (okWide_bool_mk Tryd.underlying4 _))⟩

theorem ProgTidy_over : Rows.progTidyRow.holds Tryd.pinned (OpenSpec.ofChange Rows.progTidySpec) :=
  OpenClaim.holds_of_wide 6 Tryd.f6 rfl rfl rfl rfl rfl rfl rfl ⟨rfl, rfl, rfl, rfl, rfl⟩ rfl rfl rfl rfl rfl (by kernel_rfl) Tryd.func6 (by kernel_rfl)
    (of_decide_eq_true (by kernel_rfl)) (by unfold Func.isWrapper; first | (rw [if_pos (by decide +kernel)]; kernel_rfl) | (rw [if_neg (by decide +kernel)]; exact ⟨rfl, rfl⟩))
    (fun os started H enc _ => ProgTidy_lifted os started H enc)

/-- The statement: the tied card. -/
theorem ProgTidy_card : Rows.ProgTidyCardSaid :=
  Claim7.holds_tied_plain_at .later [] [.data, .data, .data, .data, .sentinel, .sentinel, .data, .pinned] true _ true
    ProgTidy_over (fun _ h => by cases h) (by kernel_rfl) (fun _ h => by cases h) progTidy_row_tie rfl ⟨rfl, rfl⟩ (by kernel_rfl) rfl
    (fun f fn hf hfn => by
      obtain rfl : f = 6 := Option.some.inj ((show Tryd.prog.funcNamed "deadbolt/deadboltlaw12.ProgTidy" = some 6 by kernel_rfl).symm.trans hf) |>.symm
      obtain rfl : fn = Tryd.f6 := (Option.some.inj (Tryd.func6.symm.trans hfn)).symm
      exact ⟨by kernel_rfl, fun j t ht => by
        rw [Tryd.params6] at ht
        have hm : t ∈ [32, 32, 3, 3] := by
          have := Array.mem_of_getElem? ht
          simpa using this
        have hall : ([32, 32, 3, 3] : List TypeId).all (fun t => Tryd.prog.wantsStandIn t == false) = true := by kernel_rfl
        have hw := List.all_eq_true.1 hall t hm
        exact beq_iff_eq.1 hw⟩)
    (by kernel_rfl)
#print axioms ProgTidy_card
end Go.Proofs.YtocojdiapaeajaaDoor
