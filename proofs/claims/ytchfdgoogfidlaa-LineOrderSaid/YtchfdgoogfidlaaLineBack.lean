/-
  Proved: deadboltlaw07.LineBack returns true at every input (who comes, and is taken out, leaves the line as it was; who comes first is popped at once). No condition.
-/
import Derived.Test.YtchfdgoogfidlaaLineRef
import Derived.Test.YtchfdgoogfidlaaEnds
namespace Go.Proofs.Ytchfdgoogfidlaa
open Go.ChangeShapes Go.WideShapes Go.ChangeAt Go.RowKit
set_option linter.unusedVariables false

theorem min70 (n : Nat) : ∃ m, (70 < n ∧ m = 70) ∨ (n ≤ 70 ∧ m = n) := by
  by_cases h : 70 < n
  · exact ⟨70, .inl ⟨h, rfl⟩⟩
  · exact ⟨n, .inr ⟨by omega, rfl⟩⟩
/-- The line with one more. -/
theorem ln_more1 {l : List Int} {x : Int} (h : Ln l) (h0 : 0 ≤ x) (hx : x ∉ l) (h64 : l.length < 64) : Ln (l ++ [x]) :=
  ⟨by simp; omega, good_app.2 ⟨h.2, good_one.2 h0, fun y hy h1 => hx (by simp at h1; exact h1 ▸ hy)⟩⟩
theorem ln_more0 {l : List Int} {x : Int} (h : Ln l) (h0 : 0 ≤ x) (hx : x ∉ l) (h64 : l.length < 64) : Ln (x :: l) :=
  ⟨by simp; omega, good_cons.2 ⟨h0, hx, h.2⟩⟩
set_option maxHeartbeats 400000 in
set_option maxRecDepth 100000 in
theorem back_no {w : World} {A : Option Addr} {n c m : Nat} {l : List Int} (hc : n ≤ c) (hn : n ≤ 9223372036854775807) (hmn : (70 < n ∧ m = 70) ∨ (n ≤ 70 ∧ m = n)) (hm : IMem w A m l)
    {who : Int} {first : Bool} (hw : B64 who) {r : List Int} {e : Int} (h : PushR l who first r e) (he : (e == 0) = false) :
    Calls Try.prog 6 #[.slice A n c, .int .i64 who, .bool first] w fun e w' => e = .returned (.bool true) ∧ Gr w w' := by
  have k1 := fun w => Lib.hid (few_ok A n c m hc hn hmn w)
  have k2 := Lib.hid (Push_is (c := c) hm (by omega) (by omega) hw h)
  have hr : r = [] := by
    rcases h with ⟨_, h, _⟩ | ⟨_, _, _, h, _⟩ | ⟨_, _, _, _, h, _⟩ | ⟨_, _, _, _, _, h⟩
    · exact h
    · exact h
    · exact h
    · subst h; simp at he
  subst hr
  clear h hm hmn
  go_enter Try.func6, Try.ntmps6
  go_wp2_with fail
  with_reducible refine (k1 _).out.mono ?_
  rintro e w1 ⟨rfl, rfl⟩
  go_wp2_with fail
  with_reducible refine k2.out.mono ?_
  rintro e w1 ⟨C, k, rfl, own1, hb1⟩
  go_wp2_with fail
  with_reducible refine (alive7_ok _).mono ?_
  rintro e w2 ⟨rfl, hb2⟩
  go_wp2_with fail
  go_ret
  exact ⟨rfl, hb1.trans hb2⟩
set_option maxHeartbeats 400000 in
set_option maxRecDepth 100000 in
theorem back_yes {w : World} {A : Option Addr} {n c m : Nat} {l : List Int} (hc : n ≤ c) (hn : n ≤ 9223372036854775807) (hmn : (70 < n ∧ m = 70) ∨ (n ≤ 70 ∧ m = n)) (hm : IMem w A m l)
    {who : Int} {first : Bool} (hw : B64 who) (h0 : 0 ≤ who) (hl : Ln l) (hx : who ∉ l) (h64 : l.length < 64) :
    Calls Try.prog 6 #[.slice A n c, .int .i64 who, .bool first] w fun e w' => e = .returned (.bool true) ∧ Gr w w' := by
  have k1 := fun w => Lib.hid (few_ok A n c m hc hn hmn w)
  obtain ⟨R, hR⟩ : ∃ R, (if first = true then who :: l else l ++ [who]) = R := ⟨_, rfl⟩
  have k2 := Lib.hid (Push_is (c := c) hm (by omega) (by omega) hw (first := first) (r := R) (e := 0) (.inr (.inr (.inr ⟨h0, hl, hx, h64, hR.symm, rfl⟩))))
  have hLR : Ln R := by
    rw [← hR]
    cases first
    · exact ln_more1 hl h0 hx h64
    · exact ln_more0 hl h0 hx h64
  have hD : DropR R who l 0 := .inr (.inr ⟨h0, hLR, by
    cases first
    · exact ⟨l, [], by simp [← hR], by simp⟩
    · exact ⟨[], l, by simp [← hR], by simp⟩, rfl⟩)
  obtain ⟨p, hp⟩ : ∃ p : Nat, p = (if first = true then 0 else l.length) := ⟨_, rfl⟩
  have hP : PlaceR R who p 0 := .inr (.inr ⟨h0, hLR, by
    cases first
    · exact ⟨l, [], by simp [← hR], by simp [hp]⟩
    · exact ⟨[], l, by simp [← hR], by simp [hp]⟩, rfl⟩)
  obtain ⟨r2, y, hO, hy⟩ : ∃ r2 y, PopR R r2 y 0 ∧ (first = true → r2 = l ∧ y = who) := by
    cases first
    · cases l with
      | nil => exact ⟨[], who, .inr (.inr ⟨hLR, by simp [← hR], rfl⟩), fun h => by cases h⟩
      | cons z zs => exact ⟨zs ++ [who], z, .inr (.inr ⟨hLR, by simp [← hR], rfl⟩), fun h => by cases h⟩
    · exact ⟨l, who, .inr (.inr ⟨hLR, by simp [← hR], rfl⟩), fun _ => ⟨rfl, rfl⟩⟩
  have hlR : R.length ≤ 64 := hLR.1
  have hll : l.length = m := hm.1
  have m64 : m < 64 := by omega
  have HM := Lib.hid hm
  have HD := Lib.hid hD
  have HP := Lib.hid hP
  have HO := Lib.hid hO
  clear hm hmn hD hP hO hR hLR hx hl h64
  cases first
  · simp only [Bool.false_eq_true, if_false] at hp
    rw [hll] at hp
    subst hp
    clear hy
    go_enter Try.func6, Try.ntmps6
    go_wp2_with fail
    with_reducible refine (k1 _).out.mono ?_
    rintro e w1 ⟨rfl, rfl⟩
    go_wp2_with fail
    with_reducible refine k2.out.mono ?_
    rintro e w2 ⟨C, k, rfl, own2, hb2⟩
    have O2 := Lib.hid own2
    clear own2
    have k3 := fun w3 (g : Gr w2 w3) => Lib.hid (Drop_is (O2.out.mem.gr g) O2.out.le (by omega) HD.out)
    have k4 := fun w3 (g : Gr w2 w3) => Lib.hid (Place_is (O2.out.mem.gr g) O2.out.le (by omega) HP.out)
    have k5 := fun w3 (g : Gr w2 w3) => Lib.hid (Pop_is (O2.out.mem.gr g) O2.out.le (by omega) HO.out)
    generalize R.length = q at *
    go_wp2_with fail
    with_reducible refine (k3 _ (Gr.refl _)).out.mono ?_
    rintro e w3 ⟨C3, d3, rfl, own3, hb3⟩
    rw [hll] at own3
    have O3 := Lib.hid own3
    clear own3
    go_wp2_with fail
    with_reducible refine (k4 _ hb3).out.mono ?_
    rintro e w4 ⟨rfl, rfl⟩
    go_wp2_with fail
    with_reducible refine (k5 _ hb3).out.mono ?_
    rintro e w5 ⟨C5, d5, rfl, own5, hb5⟩
    have O5 := Lib.hid own5
    clear own5
    have k6 := Lib.hid (rSame_is (v := true) (c := d3) (d := c) (O3.out.mem.gr hb5) (HM.out.gr (hb2.trans (hb3.trans hb5))) (by omega) (by omega) (by simp))
    go_wp2_with fail
    with_reducible refine k6.out.mono ?_
    rintro e w6 ⟨rfl, hb6⟩
    go_wp2_with fail
    with_reducible refine (alive7_ok _).mono ?_
    rintro e w7 ⟨rfl, hb7⟩
    go_wp2_with fail
    go_ret
    exact ⟨rfl, hb2.trans (hb3.trans (hb5.trans (hb6.trans hb7)))⟩
  · simp only [if_true] at hp
    subst hp
    obtain ⟨rfl, rfl⟩ := hy rfl
    clear hy
    go_enter Try.func6, Try.ntmps6
    go_wp2_with fail
    with_reducible refine (k1 _).out.mono ?_
    rintro e w1 ⟨rfl, rfl⟩
    go_wp2_with fail
    with_reducible refine k2.out.mono ?_
    rintro e w2 ⟨C, k, rfl, own2, hb2⟩
    have O2 := Lib.hid own2
    clear own2
    have k3 := fun w3 (g : Gr w2 w3) => Lib.hid (Drop_is (O2.out.mem.gr g) O2.out.le (by omega) HD.out)
    have k4 := fun w3 (g : Gr w2 w3) => Lib.hid (Place_is (O2.out.mem.gr g) O2.out.le (by omega) HP.out)
    have k5 := fun w3 (g : Gr w2 w3) => Lib.hid (Pop_is (O2.out.mem.gr g) O2.out.le (by omega) HO.out)
    generalize R.length = q at *
    go_wp2_with fail
    with_reducible refine (k3 _ (Gr.refl _)).out.mono ?_
    rintro e w3 ⟨C3, d3, rfl, own3, hb3⟩
    rw [hll] at own3
    have O3 := Lib.hid own3
    clear own3
    go_wp2_with fail
    with_reducible refine (k4 _ hb3).out.mono ?_
    rintro e w4 ⟨rfl, rfl⟩
    go_wp2_with fail
    with_reducible refine (k5 _ hb3).out.mono ?_
    rintro e w5 ⟨C5, d5, rfl, own5, hb5⟩
    rw [hll] at own5
    have O5 := Lib.hid own5
    clear own5
    have k6 := Lib.hid (rSame_is (v := true) (c := d3) (d := c) (O3.out.mem.gr hb5) (HM.out.gr (hb2.trans (hb3.trans hb5))) (by omega) (by omega) (by simp))
    go_wp2_with fail
    with_reducible refine k6.out.mono ?_
    rintro e w6 ⟨rfl, hb6⟩
    go_wp2_with fail
    with_reducible refine (alive7_ok _).mono ?_
    rintro e w7 ⟨rfl, hb7⟩
    have g7 := hb6.trans hb7
    have k8 := Lib.hid (rSame_is (v := true) (c := d5) (d := c) (O5.out.mem.gr g7) (HM.out.gr (hb2.trans (hb3.trans (hb5.trans g7)))) (by omega) (by omega) (by simp))
    go_wp2_with fail
    with_reducible refine k8.out.mono ?_
    rintro e w8 ⟨rfl, hb8⟩
    go_wp2_with fail
    go_ret
    exact ⟨rfl, hb2.trans (hb3.trans (hb5.trans (g7.trans hb8)))⟩
theorem LineBack_walk (w : World) (A : Option Addr) (n c : Nat) (l : List Int) (hc : n ≤ c) (hn : n ≤ 9223372036854775807) (hm : IMem w A n l) (who : Int) (hw : B64 who) (first : Bool) :
    Calls Try.prog 6 #[.slice A n c, .int .i64 who, .bool first] w fun e w' => e = .returned (.bool true) ∧ Gr w w' := by
  obtain ⟨m, hmn⟩ := min70 n
  have hm2 := hm.take_ m (by omega)
  obtain ⟨r, e, h⟩ := PushR.any (l.take m) who first
  by_cases he : e = 0
  · rcases h with ⟨_, _, h⟩ | ⟨_, _, _, _, h⟩ | ⟨_, _, _, _, _, h⟩ | ⟨h1, h2, h3, h4, _, _⟩
    · omega
    · omega
    · omega
    · exact back_yes hc hn hmn hm2 hw h1 h2 h3 h4
  · exact back_no hc hn hmn hm2 hw h (beq_eq_false_iff_ne.2 he)
set_option maxRecDepth 100000 in
theorem LineBack_lifted (os : Os) (started : os.Started) (H : Type) (enc : TypeId × Value → H) :
    ReturnsInHanded {} Try.checked os 6 .any (Rows.lineBackSpec.pre6 enc Try.prog Try.f6 Rows.lineBackRow.domain false) (Rows.lineBackSpec.post enc Try.prog Try.f6 false true false false) := by
  refine returnsInHanded_of_change (C := Try.checked) own started (by kernel_rfl) Try.func6
    (ChangeSpec.witness6 (enc := enc) (C := Try.checked) false ⟨#[], #[.slice none 0 0, .int .i64 0, .bool false], []⟩ 8 (by kernel_rfl) (by kernel_rfl) (by kernel_rfl) (by kernel_rfl)) ?_
  intro W base args ds gs before hval0 hW hcnd _
  have hval : ∀ (j : Nat) t v, Try.f6.params[j]? = some t → args[j]? = some v → Value.okWide Try.prog W .any base t v := hval0
  have hW' := hW
  obtain ⟨p, q, hA0, hV, rfl, hfz, hnd⟩ := hW
  have hA : DataW.TrodAll enc Try.prog W 0 (fun _ => true) true Try.f6.params.toList args.toList ds p := hA0
  rw [Try.params6] at hA hval
  have hK := hA
  obtain ⟨v0, vs0, d0, ds0, p0, q0, hargs, rfl, hp, h0, r0⟩ := trodAll_cons hA
  obtain ⟨v1, vs1, d1, ds1, p1, q1, rfl, rfl, rfl, h1, r1⟩ := trodAll_cons r0
  obtain ⟨v2, vs2, d2, ds2, p2, q2, rfl, rfl, rfl, h2, r2⟩ := trodAll_cons r1
  obtain ⟨rfl, rfl, rfl⟩ := trodAll_nil r2
  obtain rfl : args = #[v0, v1, v2] := by cases args; simp_all
  obtain ⟨rfl, rfl⟩ := trodVars_none hV
  obtain ⟨A0, n0, c0, l0, rfl, hc0, hn0, hm0⟩ := open_ints (hval 0 22 v0 rfl rfl) h0
  obtain ⟨a1, rfl, rfl, rfl, w1⟩ := open_int Try.underlying3 (hval 1 3 v1 rfl rfl) h1
  obtain ⟨a2, rfl, rfl, rfl⟩ := open_bool Try.underlying4 (hval 2 4 v2 rfl rfl) h2
  clear hA0 hval0
  refine (LineBack_walk W A0 n0 c0 l0 hc0 hn0 hm0 a1 (wfb w1) a2).mono fun e W' ⟨he, hg⟩ => ?_
  subst he
  exact ⟨_, rfl, post_below (pa := p) (pv := []) hW' (fun _ _ _ => (trodAll_cons_mk (shut_bool Try.underlying4 _) trodAll_mk0))
    (fun sp hs => trodAll_stays laidOut hg sp (by kernel_rfl) hK (fun x hx => hW'.lt x (List.mem_append_left _ hx)) (fun x hx => hs x (List.mem_append_left _ hx))) (fun _ _ => rfl) rfl
    hg (ok_one (by kernel_rfl) rfl (okWide_bool_mk Try.underlying4 _))⟩

theorem LineBack_over : Rows.lineBackRow.holds Try.pinned (OpenSpec.ofChange Rows.lineBackSpec) :=
  OpenClaim.holds_of_wide 6 Try.f6 rfl rfl rfl rfl rfl rfl rfl ⟨rfl, rfl, rfl, rfl, rfl⟩ rfl rfl rfl rfl rfl (by kernel_rfl) Try.func6 (by kernel_rfl)
    (of_decide_eq_true (by kernel_rfl)) (by unfold Func.isWrapper; first | (rw [if_pos (by decide +kernel)]; kernel_rfl) | (rw [if_neg (by decide +kernel)]; exact ⟨rfl, rfl⟩))
    (fun os started H enc _ => LineBack_lifted os started H enc)

/-- The statement. -/
theorem LineBack_holds : Rows.LineBackSaid :=
  LineBack_over
#print axioms LineBack_holds
end Go.Proofs.Ytchfdgoogfidlaa
