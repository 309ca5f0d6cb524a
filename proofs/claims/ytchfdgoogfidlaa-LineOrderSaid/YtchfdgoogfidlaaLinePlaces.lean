/-
  Proved: deadboltlaw07.LinePlaces returns true at every input (who has so many ahead is popped as that; without one of those ahead it has one less, and without one behind as many). No condition.
-/
import Derived.Test.YtchfdgoogfidlaaLineBack
namespace Go.Proofs.Ytchfdgoogfidlaa
open Go.ChangeShapes Go.WideShapes Go.ChangeAt Go.RowKit
set_option linter.unusedVariables false

theorem PlaceR.at_ {l : List Int} {k : Nat} {x : Int} (h : Ln l) (hx : l[k]? = some x) : PlaceR l x k 0 := by
  have hk := (List.getElem?_eq_some_iff.1 hx).1
  exact .inr (.inr ⟨h.2.1 x (List.mem_of_getElem? hx), h, ⟨l.take k, l.drop (k + 1), take_drop_at hx, by rw [List.length_take]; omega⟩, rfl⟩)
theorem DropR.at_ {l : List Int} {k : Nat} {x : Int} (h : Ln l) (hx : l[k]? = some x) : DropR l x (l.eraseIdx k) 0 :=
  .inr (.inr ⟨h.2.1 x (List.mem_of_getElem? hx), h, ⟨l.take k, l.drop (k + 1), take_drop_at hx, List.eraseIdx_eq_take_drop_succ l k⟩, rfl⟩)
theorem ln_erase {l : List Int} (h : Ln l) (k : Nat) : Ln (l.eraseIdx k) :=
  ⟨Nat.le_trans (List.length_eraseIdx_le l k) h.1, fun x hx => h.2.1 x (List.mem_of_mem_eraseIdx hx), List.Nodup.eraseIdx k h.2.2⟩
theorem not_erased {l : List Int} {k : Nat} {x : Int} (h : Ln l) (hx : l[k]? = some x) : x ∉ l.eraseIdx k := by
  have hg := h.2
  rw [List.eraseIdx_eq_take_drop_succ]
  rw [take_drop_at hx, good_app, good_cons] at hg
  intro hm
  rcases List.mem_append.1 hm with h1 | h1
  · exact hg.2.2 x h1 (by simp)
  · exact hg.2.1.2.1 h1
/-- Place of who stood at p, without who stood at q. -/
theorem place_erased {l : List Int} {p q : Nat} {x y : Int} (h : Ln l) (hx : l[p]? = some x) (hy : l[q]? = some y) :
    ∃ r e : Int, PlaceR (l.eraseIdx q) x r e ∧ ((p = q ∧ e = 4) ∨ (q < p ∧ r = (p : Int) - 1 ∧ e = 0) ∨ (p < q ∧ r = p ∧ e = 0)) := by
  rcases Nat.lt_trichotomy p q with hpq | hpq | hpq
  · refine ⟨p, 0, PlaceR.at_ (ln_erase h q) ?_, .inr (.inr ⟨hpq, rfl, rfl⟩)⟩
    rw [List.getElem?_eraseIdx, if_pos hpq]; exact hx
  · subst hpq
    exact ⟨0, 4, .inr (.inl ⟨h.2.1 x (List.mem_of_getElem? hx), ln_erase h p, not_erased h hx, rfl, rfl⟩), .inl ⟨rfl, rfl⟩⟩
  · refine ⟨((p - 1 : Nat) : Int), 0, PlaceR.at_ (ln_erase h q) ?_, .inr (.inl ⟨hpq, by omega, rfl⟩)⟩
    rw [List.getElem?_eraseIdx, if_neg (by omega), show p - 1 + 1 = p by omega]; exact hx
/-- a % n, made to be from 0 on. -/
theorem mods (a : Int) (n : Nat) (h : 0 < n) (hn : n ≤ 64) : ∃ (t u : Int) (p : Nat), a.tmod (n : Int) = t ∧ IntKind.i64.wrap (t + n) = u ∧ u.tmod (n : Int) = (p : Int) ∧ p < n := by
  have h1 : a.tmod (n : Int) < n := Int.tmod_lt_of_pos a (by omega)
  have h2 : -(n : Int) < a.tmod (n : Int) := Int.lt_tmod_of_pos a (by omega)
  generalize a.tmod (n : Int) = t at *
  have hu : IntKind.i64.wrap (t + n) = t + n := wrap_id (by omega) (by omega)
  have h3 := Int.tmod_nonneg (n : Int) (show 0 ≤ t + n by omega)
  have h4 : (t + n).tmod (n : Int) < n := Int.tmod_lt_of_pos _ (by omega)
  refine ⟨t, t + n, ((t + n).tmod (n : Int)).toNat, rfl, hu, by omega, by omega⟩
set_option maxHeartbeats 400000 in
set_option maxRecDepth 100000 in
theorem places_no {w : World} {A : Option Addr} {n c m : Nat} {l : List Int} (hc : n ≤ c) (hn : n ≤ 9223372036854775807) (hmn : (70 < n ∧ m = 70) ∨ (n ≤ 70 ∧ m = n)) (hm : IMem w A m l)
    (at_ off : Int) (h : ¬ Ln l ∨ l = []) :
    Calls Try.prog 5 #[.slice A n c, .int .i64 at_, .int .i64 off] w fun e w' => e = .returned (.bool true) ∧ Gr w w' := by
  have k1 := fun w => Lib.hid (few_ok A n c m hc hn hmn w)
  by_cases hl : Ln l
  · have k2 := Lib.hid (Right_is (c := c) (v := true) hm (by omega) (by omega) (by simpa using hl))
    obtain rfl := h.resolve_left (fun h => h hl)
    obtain rfl : m = 0 := hm.1.symm
    clear hm hmn h hl
    go_enter Try.func5, Try.ntmps5
    go_wp2_with fail
    with_reducible refine (k1 _).out.mono ?_
    rintro e w1 ⟨rfl, rfl⟩
    go_wp2_with fail
    with_reducible refine k2.out.mono ?_
    rintro e w1 ⟨rfl, rfl⟩
    go_wp2_with fail
    with_reducible refine (alive7_ok _).mono ?_
    rintro e w2 ⟨rfl, hb2⟩
    go_wp2_with fail
    go_ret
    exact ⟨rfl, hb2⟩
  · have k2 := Lib.hid (Right_is (c := c) (v := false) hm (by omega) (by omega) (by simpa using hl))
    clear hm hmn h hl
    go_enter Try.func5, Try.ntmps5
    go_wp2_with fail
    with_reducible refine (k1 _).out.mono ?_
    rintro e w1 ⟨rfl, rfl⟩
    go_wp2_with fail
    with_reducible refine k2.out.mono ?_
    rintro e w1 ⟨rfl, rfl⟩
    go_wp2_with fail
    with_reducible refine (alive7_ok _).mono ?_
    rintro e w2 ⟨rfl, hb2⟩
    go_wp2_with fail
    go_ret
    exact ⟨rfl, hb2⟩
set_option maxHeartbeats 400000 in
set_option maxRecDepth 100000 in
theorem places_yes {w : World} {A : Option Addr} {n c m : Nat} {l : List Int} (hc : n ≤ c) (hn : n ≤ 9223372036854775807) (hmn : (70 < n ∧ m = 70) ∨ (n ≤ 70 ∧ m = n)) (hm : IMem w A m l)
    (at_ off : Int) (ha : B64 at_) (hf : B64 off) (hl : Ln l) (h0 : 0 < m) :
    Calls Try.prog 5 #[.slice A n c, .int .i64 at_, .int .i64 off] w fun e w' => e = .returned (.bool true) ∧ Gr w w' := by
  have k1 := fun w => Lib.hid (few_ok A n c m hc hn hmn w)
  have k2 := Lib.hid (Right_is (c := c) (v := true) hm (by omega) (by omega) (by simpa using hl))
  have m64 : m ≤ 64 := by rw [← hm.1]; exact hl.1
  have mc : m ≤ c := by omega
  obtain ⟨t1, u1, p, e1, e2, e3, hp⟩ := mods at_ m h0 m64
  obtain ⟨t2, u2, q, f1, f2, f3, hq⟩ := mods off m h0 m64
  obtain ⟨b0, o0, x, rfl, hbl, hx, hix, cx⟩ := hm.at_ hp
  obtain ⟨b', o', y, hA, hbl', hy, hiy, cy⟩ := hm.at_ hq
  cases hA
  have k3 := fun w3 (g : Gr w w3) => Lib.hid (Place_is (hm.gr g) mc (by omega) (PlaceR.at_ hl hx))
  have k4 := fun w3 (g : Gr w w3) => Lib.hid (Drop_is (hm.gr g) mc (by omega) (DropR.at_ hl hy))
  have hcx := fun w3 (g : Gr w w3) => (g.cell (p := ⟨b0, o0 + p, none⟩) hbl).trans cx
  have hlen : (l.eraseIdx q).length = m - 1 := by rw [List.length_eraseIdx, if_pos (by rw [hm.1]; exact hq), hm.1]
  rw [hlen] at k4
  obtain ⟨r, e, hR, hre⟩ := place_erased hl hx hy
  obtain ⟨m1, hm1⟩ : ∃ m1, m - 1 = m1 := ⟨_, rfl⟩
  rw [hm1] at k4
  have HR := Lib.hid hR
  have w1 : IntKind.i64.wrap ((m : Int) - 1) = (m1 : Int) := by rw [wrap_id (by omega) (by omega)]; omega
  have w2 : IntKind.i64.wrap ((p : Int) - 1) = (p : Int) - 1 := wrap_id (by omega) (by omega)
  have z1 : ¬ (m : Int) = 0 := by omega
  have z0 : ¬ m = 0 := by omega
  have z2 : (0 : Int) ≤ (p : Int) := by omega
  have z3 : (p : Int) < (m : Int) := by omega
  have z4 : (0 : Int) ≤ (q : Int) := by omega
  have z5 : (q : Int) < (m : Int) := by omega
  have z6 : ((m : Int) == 0) = false := beq_eq_false_iff_ne.2 z1
  have hq1 : q < w.heap.size + q + 1 := by omega
  clear hR hm hmn hl hx hy hlen hq1
  go_enter Try.func5, Try.ntmps5
  go_wp2_with fail
  with_reducible refine (k1 _).out.mono ?_
  rintro e w1 ⟨rfl, rfl⟩
  go_wp2_with fail
  with_reducible refine k2.out.mono ?_
  rintro e w1 ⟨rfl, rfl⟩
  clear k1 k2
  go_wp2_with fail
  go_quiet (fail)
  go_wp2_with fail
  with_reducible refine (k3 _ ((Gr.refl _).drN _)).out.mono ?_
  rintro e w3 ⟨rfl, rfl⟩
  go_wp2_with fail
  with_reducible refine (k4 _ ((Gr.refl _).drN _)).out.mono ?_
  rintro e w4 ⟨C, k, rfl, own4, hb4⟩
  have G4 := ((Gr.refl _).drN _).trans hb4
  have O4 := Lib.hid own4
  clear own4 k3 k4
  go_wp2_with fail
  with_reducible refine (alive7_ok _).mono ?_
  rintro e w5 ⟨rfl, hb5⟩
  have G5 := G4.trans hb5
  have cx5 := hcx _ G5
  have k6 := Lib.hid (Place_is (O4.out.mem.gr hb5) O4.out.le (by omega) HR.out)
  go_wp2_with fail
  with_reducible refine k6.out.mono ?_
  rintro e w6 ⟨rfl, rfl⟩
  clear k6 hcx
  rcases hre with ⟨rfl, rfl⟩ | ⟨hpq, rfl, rfl⟩ | ⟨hpq, rfl, rfl⟩
  · go_wp2_with fail
    go_ret
    exact ⟨rfl, G5⟩
  · have n1 : ((p : Int) == (q : Int)) = false := beq_eq_false_iff_ne.2 (by omega)
    have n2 : (q : Int) < (p : Int) := by omega
    go_wp2_with fail
    go_ret
    exact ⟨rfl, G5⟩
  · have n1 : ((p : Int) == (q : Int)) = false := beq_eq_false_iff_ne.2 (by omega)
    have n2 : ¬ (q : Int) < (p : Int) := by omega
    go_wp2_with fail
    go_ret
    exact ⟨rfl, G5⟩
theorem LinePlaces_walk (w : World) (A : Option Addr) (n c : Nat) (l : List Int) (hc : n ≤ c) (hn : n ≤ 9223372036854775807) (hm : IMem w A n l) (at_ : Int) (ha : B64 at_) (off : Int) (hf : B64 off) :
    Calls Try.prog 5 #[.slice A n c, .int .i64 at_, .int .i64 off] w fun e w' => e = .returned (.bool true) ∧ Gr w w' := by
  obtain ⟨m, hmn⟩ := min70 n
  have hm2 := hm.take_ m (by omega)
  by_cases hl : Ln (l.take m)
  · by_cases h0 : l.take m = []
    · exact places_no hc hn hmn hm2 at_ off (.inr h0)
    · refine places_yes hc hn hmn hm2 at_ off ha hf hl ?_
      have := hm2.1
      rcases Nat.eq_zero_or_pos m with h | h
      · subst h; exact absurd (List.eq_nil_of_length_eq_zero this) h0
      · exact h
  · exact places_no hc hn hmn hm2 at_ off (.inl hl)
set_option maxRecDepth 100000 in
theorem LinePlaces_lifted (os : Os) (started : os.Started) (H : Type) (enc : TypeId × Value → H) :
    ReturnsInHanded {} Try.checked os 5 .any (Rows.linePlacesSpec.pre6 enc Try.prog Try.f5 Rows.linePlacesRow.domain false) (Rows.linePlacesSpec.post enc Try.prog Try.f5 false true false false) := by
  refine returnsInHanded_of_change (C := Try.checked) own started (by kernel_rfl) Try.func5
    (ChangeSpec.witness6 (enc := enc) (C := Try.checked) false ⟨#[], #[.slice none 0 0, .int .i64 0, .int .i64 0], []⟩ 8 (by kernel_rfl) (by kernel_rfl) (by kernel_rfl) (by kernel_rfl)) ?_
  intro W base args ds gs before hval0 hW hcnd _
  have hval : ∀ (j : Nat) t v, Try.f5.params[j]? = some t → args[j]? = some v → Value.okWide Try.prog W .any base t v := hval0
  have hW' := hW
  obtain ⟨p, q, hA0, hV, rfl, hfz, hnd⟩ := hW
  have hA : DataW.TrodAll enc Try.prog W 0 (fun _ => true) true Try.f5.params.toList args.toList ds p := hA0
  rw [Try.params5] at hA hval
  have hK := hA
  obtain ⟨v0, vs0, d0, ds0, p0, q0, hargs, rfl, hp, h0, r0⟩ := trodAll_cons hA
  obtain ⟨v1, vs1, d1, ds1, p1, q1, rfl, rfl, rfl, h1, r1⟩ := trodAll_cons r0
  obtain ⟨v2, vs2, d2, ds2, p2, q2, rfl, rfl, rfl, h2, r2⟩ := trodAll_cons r1
  obtain ⟨rfl, rfl, rfl⟩ := trodAll_nil r2
  obtain rfl : args = #[v0, v1, v2] := by cases args; simp_all
  obtain ⟨rfl, rfl⟩ := trodVars_none hV
  obtain ⟨A0, n0, c0, l0, rfl, hc0, hn0, hm0⟩ := open_ints (hval 0 22 v0 rfl rfl) h0
  obtain ⟨a1, rfl, rfl, rfl, w1⟩ := open_int Try.underlying3 (hval 1 3 v1 rfl rfl) h1
  obtain ⟨a2, rfl, rfl, rfl, w2⟩ := open_int Try.underlying3 (hval 2 3 v2 rfl rfl) h2
  clear hA0 hval0
  refine (LinePlaces_walk W A0 n0 c0 l0 hc0 hn0 hm0 a1 (wfb w1) a2 (wfb w2)).mono fun e W' ⟨he, hg⟩ => ?_
  subst he
  exact ⟨_, rfl, post_below (pa := p) (pv := []) hW' (fun _ _ _ => (trodAll_cons_mk (shut_bool Try.underlying4 _) trodAll_mk0))
    (fun sp hs => trodAll_stays laidOut hg sp (by kernel_rfl) hK (fun x hx => hW'.lt x (List.mem_append_left _ hx)) (fun x hx => hs x (List.mem_append_left _ hx))) (fun _ _ => rfl) rfl
    hg (ok_one (by kernel_rfl) rfl (okWide_bool_mk Try.underlying4 _))⟩

theorem LinePlaces_over : Rows.linePlacesRow.holds Try.pinned (OpenSpec.ofChange Rows.linePlacesSpec) :=
  OpenClaim.holds_of_wide 5 Try.f5 rfl rfl rfl rfl rfl rfl rfl ⟨rfl, rfl, rfl, rfl, rfl⟩ rfl rfl rfl rfl rfl (by kernel_rfl) Try.func5 (by kernel_rfl)
    (of_decide_eq_true (by kernel_rfl)) (by unfold Func.isWrapper; first | (rw [if_pos (by decide +kernel)]; kernel_rfl) | (rw [if_neg (by decide +kernel)]; exact ⟨rfl, rfl⟩))
    (fun os started H enc _ => LinePlaces_lifted os started H enc)

/-- The statement. -/
theorem LinePlaces_holds : Rows.LinePlacesSaid :=
  LinePlaces_over
#print axioms LinePlaces_holds
end Go.Proofs.Ytchfdgoogfidlaa
