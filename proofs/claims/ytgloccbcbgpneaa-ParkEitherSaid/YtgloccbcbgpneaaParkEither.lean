/-
  ParkEither, for every input: who parks and is told, or is told and parks, is as it was, if it ran without a permit; who ends is not told any more. No condition.
-/
import Derived.Test.YtgloccbcbgpneaaParkLaw
import Derived.Test.YtgloccbcbgpneaaEnds
namespace Go.Proofs.Ytgloccbcbgpneaa
open Go.ChangeShapes Go.WideShapes Go.ChangeAt Go.RowKit P11
set_option linter.unusedVariables false

/-- The two ways of the law: somebody says no, or both say yes. -/
theorem either_cases (l : List G) (who : Int) :
    (∃ q R f S, outc pkG l who = (q, R) ∧ outc rdG l who = (f, S) ∧ (q ≠ 0 ∨ f ≠ 0) ∧ (q ≠ 0 → R = []) ∧ (f ≠ 0 → S = [])) ∨
    ∃ k : Nat, who = (k : Int) ∧ k < l.length ∧ outc pkG l who = (0, l.set k (1, false)) ∧ outc rdG l who = (0, l.set k (0, true)) ∧ outc enG l who = (0, l.set k (2, false)) ∧
      outc rdG (l.set k (1, false)) who = (0, l) ∧ outc pkG (l.set k (0, true)) who = (0, l) ∧ outc rdG (l.set k (2, false)) who = (6, []) ∧ outc pkG (l.set k (2, false)) who = (6, []) := by
  rcases outc_cases pkG err_pk l who with ⟨q, h, hq⟩ | ⟨k, x, y, rfl, hr, hx, hp, h⟩
  · rcases outc_cases rdG err_rd l who with ⟨f, h', hf⟩ | ⟨k, x, y, rfl, hr, hx, hp, h'⟩
    · exact .inl ⟨q, [], f, [], h, h', .inl hq, fun _ => rfl, fun _ => rfl⟩
    · exact .inl ⟨q, [], 0, _, h, h', .inl hq, fun _ => rfl, fun h => absurd rfl h⟩
  · rcases outc_cases rdG err_rd l (k : Int) with ⟨f, h', hf⟩ | ⟨k', x', y', hk, _, hx', hp', h'⟩
    · exact .inl ⟨0, _, f, [], h, h', .inr hf, fun h => absurd rfl h, fun _ => rfl⟩
    · obtain rfl : k = k' := by omega
      obtain rfl : x = x' := by rw [hx] at hx'; exact Option.some.inj hx'
      obtain ⟨a1, a2⟩ := pk_yes hp
      obtain ⟨b1, b2, b3⟩ := rd_yes hp'
      obtain ⟨s, p⟩ := x
      simp only at a1 a2 b1 b2 b3
      subst a1 b2 a2 b3
      have hk := (List.getElem?_eq_some_iff.1 hx).1
      refine .inr ⟨k, rfl, hk, h, h', ?_, ?_, ?_, ?_, ?_⟩
      · rw [outc_at hr hx]; rfl
      · rw [outc_at (right_set hr (by decide)) (get_set hx), show rdG (1, false) = (0, (0, false)) from rfl, if_pos rfl, List.set_set, set_same hx]
      · rw [outc_at (right_set hr (by decide)) (get_set hx), show pkG (0, true) = (0, (0, false)) from rfl, if_pos rfl, List.set_set, set_same hx]
      · rw [outc_at (right_set hr (by decide)) (get_set hx)]; rfl
      · rw [outc_at (right_set hr (by decide)) (get_set hx)]; rfl

set_option maxHeartbeats 4000000 in
theorem ParkEither_walk (w : World) (A : Option Addr) (n0 c : Nat) (l0 : List G) (hc : n0 ≤ c) (hn : n0 ≤ 9223372036854775807) (hm0 : GMem w A n0 l0) (who : Int) (hw : B64 who) :
    Calls Try.prog 5 #[.slice A n0 c, .int .i64 who] w fun e w' => e = .returned (.bool true) ∧ Gr w w' := by
  obtain ⟨n, hmn⟩ : ∃ n, (12 < n0 ∧ n = 12) ∨ (n0 ≤ 12 ∧ n = n0) := by
    by_cases h : 12 < n0
    · exact ⟨12, .inl ⟨h, rfl⟩⟩
    · exact ⟨n0, .inr ⟨by omega, rfl⟩⟩
  have n12 : n ≤ 12 := by omega
  have hm := hm0.take_ n (by omega)
  have c0 := Lib.hid (few_ok A n0 c n hc hn hmn w)
  obtain ⟨l, hl⟩ : ∃ l, l0.take n = l := ⟨_, rfl⟩
  rw [hl] at hm
  have HM := Lib.hid hm
  have HL := Lib.hid hm.1
  have ca := fun w => Lib.hid (alive_ok w)
  clear hm hm0 hl hmn hc hn
  rcases either_cases l who with ⟨q, R, f, S, h1, h2, h3, h4, h5⟩ | ⟨k, rfl, hk, h1, h2, h3, h4, h5, h6, h7⟩
  · have p1 := fun w hm => Lib.hid (Park_at (A := A) (c := c) (n := n) (by omega) h1 rfl w hm)
    have p2 := fun w hm => Lib.hid (Ready_at (A := A) (c := c) (n := n) (by omega) h2 rfl w hm)
    have tail : (q ≠ 0 ∧ R.length = 0 ∧ f ≠ 0 ∧ S.length = 0) ∨ (q ≠ 0 ∧ R.length = 0 ∧ f = 0) ∨ (q = 0 ∧ f ≠ 0 ∧ S.length = 0) := by
      by_cases hq : q = 0
      · by_cases hf : f = 0
        · omega
        · exact .inr (.inr ⟨hq, hf, by rw [h5 hf]; rfl⟩)
      · by_cases hf : f = 0
        · exact .inr (.inl ⟨hq, by rw [h4 hq]; rfl, hf⟩)
        · exact .inl ⟨hq, by rw [h4 hq]; rfl, hf, by rw [h5 hf]; rfl⟩
    generalize hu : R.length = u at *
    generalize hv : S.length = v at *
    clear h1 h2 h3 h4 h5 hu hv HL
    rcases tail with ⟨hq, rfl, hf, rfl⟩ | ⟨hq, rfl, rfl⟩ | ⟨rfl, hf, rfl⟩
    all_goals (
      try have nq : (q == 0) = false := beq_eq_false_iff_ne.2 hq
      try have nf : (f == 0) = false := beq_eq_false_iff_ne.2 hf
      go_enter Try.func5, Try.ntmps5
      go_wp2_with fail
      with_reducible refine c0.out.mono ?_
      rintro e w1 ⟨rfl, rfl⟩
      go_wp2_with fail
      with_reducible refine (p1 _ HM.out).out.mono ?_
      rintro e w1 ⟨B1, m1, rfl, hB1, hm1, -, g1⟩
      have M1 := HM.out.gr g1
      have HM1 := Lib.hid M1
      have G1 := Lib.hid g1
      clear hB1 g1 M1
      go_wp2_with fail
      with_reducible refine (p2 _ HM1.out).out.mono ?_
      rintro e w2 ⟨B2, m2, rfl, hB2, hm2, -, g2⟩
      have G2 := Lib.hid (G1.out.trans g2)
      clear hB2 g2
      go_wp2_with fail
      with_reducible refine (ca _).out.mono ?_
      rintro e w3 ⟨rfl, g3⟩
      have G3 := Lib.hid (G2.out.trans g3)
      clear g3
      go_wp2_with fail
      go_ret
      exact ⟨rfl, G3.out⟩)
  · have e1 : ∀ y : G, (l.set k y).length = n := fun y => by rw [List.length_set]; exact HL.out
    have p1 := fun w hm => Lib.hid (Park_at (A := A) (c := c) (n := n) (by omega) h1 (e1 _) w hm)
    have p2 := fun w hm => Lib.hid (Ready_at (A := A) (c := c) (n := n) (by omega) h2 (e1 _) w hm)
    have p3 := fun w hm => Lib.hid (End_at (A := A) (c := c) (n := n) (by omega) h3 (e1 _) w hm)
    have p4 := fun A c w hm => Lib.hid (Ready_at (A := A) (c := c) (n := n) (by omega) h4 HL.out w hm)
    have p5 := fun A c w hm => Lib.hid (Park_at (A := A) (c := c) (n := n) (by omega) h5 HL.out w hm)
    have p6 := fun A c w hm => Lib.hid (Ready_at (A := A) (c := c) (n := n) (by omega) h6 rfl w hm)
    have p7 := fun A c w hm => Lib.hid (Park_at (A := A) (c := c) (n := n) (by omega) h7 rfl w hm)
    have ps := fun A B c d w hm hk => Lib.hid (rSame_true A B n c d l w (by omega) hm hk)
    clear h1 h2 h3 h4 h5 h6 h7 HL hk e1
    simp only [List.length_nil] at p6 p7
    go_enter Try.func5, Try.ntmps5
    go_wp2_with fail
    with_reducible refine c0.out.mono ?_
    rintro e w1 ⟨rfl, rfl⟩
    go_wp2_with fail
    with_reducible refine (p1 _ HM.out).out.mono ?_
    rintro e w1 ⟨B1, m1, rfl, hB1, hm1, -, g1⟩
    have M1 := Lib.hid hB1
    have HM1 := Lib.hid (HM.out.gr g1)
    have G1 := Lib.hid g1
    clear hB1 g1
    go_wp2_with fail
    with_reducible refine (p2 _ HM1.out).out.mono ?_
    rintro e w2 ⟨B2, m2, rfl, hB2, hm2, -, g2⟩
    have M2 := Lib.hid hB2
    replace M1 := Lib.hid (M1.out.gr g2)
    have HM2 := Lib.hid (HM1.out.gr g2)
    have G2 := Lib.hid (G1.out.trans g2)
    clear hB2 g2 HM1 G1
    go_wp2_with fail
    with_reducible refine (p4 _ _ _ M1.out).out.mono ?_
    rintro e w3 ⟨B3, m3, rfl, hB3, hm3, -, g3⟩
    have M3 := Lib.hid hB3
    replace M2 := Lib.hid (M2.out.gr g3)
    have HM3 := Lib.hid (HM2.out.gr g3)
    have G3 := Lib.hid (G2.out.trans g3)
    clear hB3 g3 HM2 G2
    go_wp2_with fail
    with_reducible refine (p5 _ _ _ M2.out).out.mono ?_
    rintro e w4 ⟨B4, m4, rfl, hB4, hm4, -, g4⟩
    have M4 := Lib.hid hB4
    replace M3 := Lib.hid (M3.out.gr g4)
    have HM4 := Lib.hid (HM3.out.gr g4)
    have G4 := Lib.hid (G3.out.trans g4)
    clear hB4 g4 HM3 G3
    go_wp2_with fail
    with_reducible refine (p3 _ HM4.out).out.mono ?_
    rintro e w5 ⟨B5, m5, rfl, hB5, hm5, -, g5⟩
    have M5 := Lib.hid hB5
    replace M3 := Lib.hid (M3.out.gr g5)
    replace M4 := Lib.hid (M4.out.gr g5)
    have HM5 := Lib.hid (HM4.out.gr g5)
    have G5 := Lib.hid (G4.out.trans g5)
    clear hB5 g5 HM4 G4
    go_wp2_with fail
    with_reducible refine (p6 _ _ _ M5.out).out.mono ?_
    rintro e w6 ⟨B6, m6, rfl, hB6, hm6, -, g6⟩
    replace M3 := Lib.hid (M3.out.gr g6)
    replace M4 := Lib.hid (M4.out.gr g6)
    replace M5 := Lib.hid (M5.out.gr g6)
    have HM6 := Lib.hid (HM5.out.gr g6)
    have G6 := Lib.hid (G5.out.trans g6)
    clear hB6 g6 HM5 G5
    go_wp2_with fail
    with_reducible refine (p7 _ _ _ M5.out).out.mono ?_
    rintro e w7 ⟨B7, m7, rfl, hB7, hm7, -, g7⟩
    replace M3 := Lib.hid (M3.out.gr g7)
    replace M4 := Lib.hid (M4.out.gr g7)
    have HM7 := Lib.hid (HM6.out.gr g7)
    have G7 := Lib.hid (G6.out.trans g7)
    clear hB7 g7 HM6 G6
    go_wp2_with fail
    with_reducible refine (ca _).out.mono ?_
    rintro e w8 ⟨rfl, g8⟩
    replace M3 := Lib.hid (M3.out.gr g8)
    replace M4 := Lib.hid (M4.out.gr g8)
    have HM8 := Lib.hid (HM7.out.gr g8)
    have G8 := Lib.hid (G7.out.trans g8)
    clear g8 HM7 G7
    go_wp2_with fail
    with_reducible refine (ps _ _ _ _ _ M3.out HM8.out).out.mono ?_
    rintro e w9 ⟨rfl, g9⟩
    replace M4 := Lib.hid (M4.out.gr g9)
    have HM9 := Lib.hid (HM8.out.gr g9)
    have G9 := Lib.hid (G8.out.trans g9)
    clear g9 HM8 G8
    go_wp2_with fail
    with_reducible refine (ps _ _ _ _ _ M4.out HM9.out).out.mono ?_
    rintro e w10 ⟨rfl, g10⟩
    have G10 := Lib.hid (G9.out.trans g10)
    clear g10
    go_wp2_with fail
    go_ret
    exact ⟨rfl, G10.out⟩

set_option maxRecDepth 100000 in
theorem ParkEither_lifted (os : Os) (started : os.Started) (H : Type) (enc : TypeId × Value → H) :
    ReturnsInHanded {} Try.checked os 5 .any (Rows.parkEitherSpec.pre6 enc Try.prog Try.f5 Rows.parkEitherRow.domain false) (Rows.parkEitherSpec.post enc Try.prog Try.f5 false true false false) := by
  refine returnsInHanded_of_change (C := Try.checked) own started (by kernel_rfl) Try.func5
    (ChangeSpec.witness6 (enc := enc) (C := Try.checked) false ⟨#[], #[.slice none 0 0, .int .i64 0], []⟩ 8 (by kernel_rfl) (by kernel_rfl) (by kernel_rfl) (by kernel_rfl)) ?_
  intro W base args ds gs before hval0 hW hcnd _
  have hval : ∀ (j : Nat) t v, Try.f5.params[j]? = some t → args[j]? = some v → Value.okWide Try.prog W .any base t v := hval0
  have hW' := hW
  obtain ⟨p, q, hA0, hV, rfl, hfz, hnd⟩ := hW
  have hA : DataW.TrodAll enc Try.prog W 0 (fun _ => true) true Try.f5.params.toList args.toList ds p := hA0
  rw [Try.params5] at hA hval
  have hK := hA
  obtain ⟨v0, vs0, d0, ds0, p0, q0, hargs, rfl, hp, h0, r0⟩ := trodAll_cons hA
  obtain ⟨v1, vs1, d1, ds1, p1, q1, rfl, rfl, rfl, h1, r1⟩ := trodAll_cons r0
  obtain ⟨rfl, rfl, rfl⟩ := trodAll_nil r1
  obtain rfl : args = #[v0, v1] := by cases args; simp_all
  obtain ⟨rfl, rfl⟩ := trodVars_none hV
  obtain ⟨A0, n0, c0, l0, rfl, hc0, hn0, hm0⟩ := P11.open_gors (hval 0 22 v0 rfl rfl) h0
  obtain ⟨a1, rfl, rfl, rfl, w1⟩ := open_int Try.underlying3 (hval 1 3 v1 rfl rfl) h1
  clear hA0 hval0
  refine (ParkEither_walk W A0 n0 c0 l0 hc0 hn0 hm0 a1 (wfb w1)).mono fun e W' ⟨he, hg⟩ => ?_
  subst he
  exact ⟨_, rfl, post_below (pa := p) (pv := []) hW' (fun _ _ _ => (trodAll_cons_mk (shut_bool Try.underlying4 _) trodAll_mk0))
    (fun sp hs => trodAll_stays laidOut hg sp (by kernel_rfl) hK (fun x hx => hW'.lt x (List.mem_append_left _ hx)) (fun x hx => hs x (List.mem_append_left _ hx))) (fun _ _ => rfl) rfl
    hg (ok_one (by kernel_rfl) rfl (okWide_bool_mk Try.underlying4 _))⟩

theorem ParkEither_over : Rows.parkEitherRow.holds Try.pinned (OpenSpec.ofChange Rows.parkEitherSpec) :=
  OpenClaim.holds_of_wide 5 Try.f5 rfl rfl rfl rfl rfl rfl rfl ⟨rfl, rfl, rfl, rfl, rfl⟩ rfl rfl rfl rfl rfl (by kernel_rfl) Try.func5 (by kernel_rfl)
    (of_decide_eq_true (by kernel_rfl)) (by unfold Func.isWrapper; first | (rw [if_pos (by decide +kernel)]; kernel_rfl) | (rw [if_neg (by decide +kernel)]; exact ⟨rfl, rfl⟩))
    (fun os started H enc _ => ParkEither_lifted os started H enc)

/-- The statement. -/
theorem ParkEither_holds : Rows.ParkEitherSaid :=
  ParkEither_over
#print axioms ParkEither_holds
end Go.Proofs.Ytgloccbcbgpneaa
