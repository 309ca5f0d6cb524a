/-
  deadboltref14: what Right, Fresh, Spins, Wakes, Got and Handed answer.
-/
import Derived.Test.YtddgihbgdlnlbaaGrabLook
namespace Go.Proofs.Ytddgihbgdlnlbaa
open Go.ChangeShapes Go.WideShapes Go.ChangeAt Go.RowKit
set_option linter.unusedVariables false
set_option linter.unusedSimpArgs false

namespace P14
open P3 (fl pw)
open P4 (Tm)

section
variable {s r : Int} {t k a b c : Bool} {n u o x : Int} {w : World}
set_option maxHeartbeats 2000000 in
theorem rRight_yes (h : OkS s r) (ho : OkW o) : Calls Try.prog 14 #[ov s t k r o] w fun e w' => e = .returned (.bool true) ∧ Gr w w' := by
  obtain ⟨hs, hr0, hr4⟩ := h
  have W := fun w => Lib.hid (P3.rWord_yes o ho w)
  have G0 := (Gr.refl w).al (.cells #[.int .i64 s, .bool t, .bool k, .int .i64 r, .int .i64 o] 23)
  by_cases h1 : s = -1
  · subst h1
    clear hs ho
    go_enter Try.func14, Try.ntmps14
    go_wp2_with fail
    with_reducible refine (W _).out.mono ?_
    rintro e w1 ⟨rfl, rfl⟩
    go_wp2_with fail
    go_ret
    exact ⟨rfl, G0⟩
  · have hn1 : (s == -1) = false := beq_eq_false_iff_ne.2 h1
    have R := fun w => Lib.hid (P4.rRight_yes s (hs.resolve_left h1) w)
    clear hs ho
    go_enter Try.func14, Try.ntmps14
    go_wp2_with fail
    with_reducible refine (R _).out.mono ?_
    rintro e w1 ⟨rfl, rfl⟩
    go_wp2_with fail
    with_reducible refine (W _).out.mono ?_
    rintro e w1 ⟨rfl, rfl⟩
    go_wp2_with fail
    go_ret
    exact ⟨rfl, G0⟩
set_option maxHeartbeats 2000000 in
theorem rRight_no (h : ¬ (OkS s r ∧ OkW o)) : Calls Try.prog 14 #[ov s t k r o] w fun e w' => e = .returned (.bool false) ∧ Gr w w' := by
  have G0 := (Gr.refl w).al (.cells #[.int .i64 s, .bool t, .bool k, .int .i64 r, .int .i64 o] 23)
  by_cases h1 : s = -1
  · subst h1
    by_cases h0 : 0 ≤ r
    · by_cases h4 : r ≤ 4
      · have W := fun w => Lib.hid (P3.rWord_no o (fun q => h ⟨⟨.inl rfl, h0, h4⟩, q⟩) w)
        clear h
        go_enter Try.func14, Try.ntmps14
        go_wp2_with fail
        with_reducible refine (W _).out.mono ?_
        rintro e w1 ⟨rfl, rfl⟩
        go_wp2_with fail
        go_ret
        exact ⟨rfl, G0⟩
      · have h4' : decide (r ≤ 4) = false := decide_eq_false h4
        clear h h4
        go_enter Try.func14, Try.ntmps14
        go_wp2_with fail
        go_ret
        exact ⟨rfl, G0⟩
    · have h0' : decide (0 ≤ r) = false := decide_eq_false h0
      clear h h0
      go_enter Try.func14, Try.ntmps14
      go_wp2_with fail
      go_ret
      exact ⟨rfl, G0⟩
  · have hn1 : (s == -1) = false := beq_eq_false_iff_ne.2 h1
    by_cases hs : Tm s
    · have R := fun w => Lib.hid (P4.rRight_yes s hs w)
      by_cases h0 : 0 ≤ r
      · by_cases h4 : r ≤ 4
        · have W := fun w => Lib.hid (P3.rWord_no o (fun q => h ⟨⟨.inr hs, h0, h4⟩, q⟩) w)
          clear h hs
          go_enter Try.func14, Try.ntmps14
          go_wp2_with fail
          with_reducible refine (R _).out.mono ?_
          rintro e w1 ⟨rfl, rfl⟩
          go_wp2_with fail
          with_reducible refine (W _).out.mono ?_
          rintro e w1 ⟨rfl, rfl⟩
          go_wp2_with fail
          go_ret
          exact ⟨rfl, G0⟩
        · have h4' : decide (r ≤ 4) = false := decide_eq_false h4
          clear h h4 hs
          go_enter Try.func14, Try.ntmps14
          go_wp2_with fail
          with_reducible refine (R _).out.mono ?_
          rintro e w1 ⟨rfl, rfl⟩
          go_wp2_with fail
          go_ret
          exact ⟨rfl, G0⟩
      · have h0' : decide (0 ≤ r) = false := decide_eq_false h0
        clear h h0 hs
        go_enter Try.func14, Try.ntmps14
        go_wp2_with fail
        with_reducible refine (R _).out.mono ?_
        rintro e w1 ⟨rfl, rfl⟩
        go_wp2_with fail
        go_ret
        exact ⟨rfl, G0⟩
    · have R := fun w => Lib.hid (P4.rRight_no s hs w)
      clear h hs
      go_enter Try.func14, Try.ntmps14
      go_wp2_with fail
      with_reducible refine (R _).out.mono ?_
      rintro e w1 ⟨rfl, rfl⟩
      go_wp2_with fail
      go_ret
      exact ⟨rfl, G0⟩
set_option maxHeartbeats 1000000 in
theorem rFresh_is : Calls Try.prog 16 #[] w fun e w' => e = .returned (ov (-1) false false 0 0) ∧ Gr w w' := by
  go_enter Try.func16, Try.ntmps16
  go_wp2_with fail
  exact bodyPost_ret (v := ov (-1) false false 0 0) (by simp [results, Try.results16, go_sem]) rfl ⟨rfl, (Gr.refl w).al _⟩
set_option maxHeartbeats 1000000 in
theorem rGot_is (hn : OkN n) : Calls Try.prog 22 #[ov s t k r (pw a b c n)] w fun e w' => e = .returned (.bool (!a && !c)) ∧ Gr w w' := by
  have U := fun w => Lib.hid (P3.rUnpack_ok a b c n hn w)
  generalize pw a b c n = o at *
  have N0 := Blk.new w #[.int .i64 s, .bool t, .bool k, .int .i64 r, .int .i64 o] 23
  have G0 := (Gr.refl w).al (.cells #[.int .i64 s, .bool t, .bool k, .int .i64 r, .int .i64 o] 23)
  clear hn
  cases a <;> cases c
  all_goals (
    go_enter Try.func22, Try.ntmps22
    go_wp2_with fail
    with_reducible refine (U _).out.mono ?_
    rintro e w1 ⟨rfl, g1⟩
    have hlt := (N0.gr g1).lt
    go_wp2_with fail
    go_ret
    exact ⟨rfl, (G0.trans g1).al _⟩)
set_option maxHeartbeats 1000000 in
theorem rWakes_is (hn : OkN n) : Calls Try.prog 21 #[ov s t k r (pw a b c n)] w fun e w' => e = .returned (.bool (!k && !b && decide (0 < n))) ∧ Gr w w' := by
  have U := fun w => Lib.hid (P3.rUnpack_ok a b c n hn w)
  generalize pw a b c n = o at *
  have N0 := Blk.new w #[.int .i64 s, .bool t, .bool k, .int .i64 r, .int .i64 o] 23
  have G0 := (Gr.refl w).al (.cells #[.int .i64 s, .bool t, .bool k, .int .i64 r, .int .i64 o] 23)
  clear hn
  cases k <;> cases b
  all_goals (
    go_enter Try.func21, Try.ntmps21
    go_wp2_with fail
    with_reducible refine (U _).out.mono ?_
    rintro e w1 ⟨rfl, g1⟩
    have hlt := (N0.gr g1).lt
    obtain ⟨q2, -⟩ := (N0.gr g1).at_ (k := 2) rfl
    go_wp2_with fail
    go_ret
    exact ⟨by simp, (G0.trans g1).al _⟩)
set_option maxHeartbeats 2000000 in
theorem rSpins_is (hn : OkN n) {v : Bool} (hcan : ∀ W, Calls Try.prog 47 #[.int .i64 r, .int .i64 u] W fun e w' => e = .returned (.bool v) ∧ w' = W) :
    Calls Try.prog 18 #[ov s t k r (pw a b c n), .int .i64 u] w fun e w' => e = .returned (.bool (v && (a && !c))) ∧ Gr w w' := by
  have C := fun w => Lib.hid (hcan w)
  clear hcan
  have U := fun w => Lib.hid (P3.rUnpack_ok a b c n hn w)
  generalize pw a b c n = o at *
  have N0 := Blk.new w #[.int .i64 s, .bool t, .bool k, .int .i64 r, .int .i64 o] 23
  have G0 := (Gr.refl w).al (.cells #[.int .i64 s, .bool t, .bool k, .int .i64 r, .int .i64 o] 23)
  clear hn
  cases a <;> cases c
  case true.false =>
    go_enter Try.func18, Try.ntmps18
    go_wp2_with fail
    with_reducible refine (U _).out.mono ?_
    rintro e w1 ⟨rfl, g1⟩
    have hlt := (N0.gr g1).lt
    obtain ⟨q3, -⟩ := (N0.gr g1).at_ (k := 3) rfl
    go_wp2_with fail
    with_reducible refine (C _).out.mono ?_
    rintro e w2 ⟨rfl, rfl⟩
    go_wp2_with fail
    go_ret
    exact ⟨by simp, (G0.trans g1).al _⟩
  all_goals (
    go_enter Try.func18, Try.ntmps18
    go_wp2_with fail
    with_reducible refine (U _).out.mono ?_
    rintro e w1 ⟨rfl, g1⟩
    have hlt := (N0.gr g1).lt
    obtain ⟨q3, -⟩ := (N0.gr g1).at_ (k := 3) rfl
    go_wp2_with fail
    go_ret
    exact ⟨by simp, (G0.trans g1).al _⟩)
set_option maxHeartbeats 1000000 in
theorem rHanded_no (hn : OkN n) (hb : ¬ (a = false ∧ b = false ∧ 0 < n)) : Calls Try.prog 20 #[ov s t k r (pw a b c n)] w fun e w' => e = .returned (.tuple #[.int .i64 0, .int .i64 12]) ∧ Gr w w' := by
  have hk : a = true ∨ (a = false ∧ b = true) ∨ (a = false ∧ b = false ∧ (n == 0) = true) := by
    cases a <;> cases b <;> simp_all
    unfold OkN at hn; omega
  clear hb
  have U := fun w => Lib.hid (P3.rUnpack_ok a b c n hn w)
  generalize pw a b c n = o at *
  have N0 := Blk.new w #[.int .i64 s, .bool t, .bool k, .int .i64 r, .int .i64 o] 23
  have G0 := (Gr.refl w).al (.cells #[.int .i64 s, .bool t, .bool k, .int .i64 r, .int .i64 o] 23)
  clear hn
  rcases hk with rfl | ⟨rfl, rfl⟩ | ⟨rfl, rfl, h0⟩
  all_goals (
    go_enter Try.func20, Try.ntmps20
    go_wp2_with fail
    with_reducible refine (U _).out.mono ?_
    rintro e w1 ⟨rfl, g1⟩
    have hlt := (N0.gr g1).lt
    go_wp2_with fail
    go_ret2
    exact ⟨rfl, (G0.trans g1).al _⟩)
set_option maxHeartbeats 1000000 in
theorem rHanded_ok (hn : OkN n) (h0 : 0 < n) : Calls Try.prog 20 #[ov s t k r (pw false false c n)] w fun e w' => e = .returned (.tuple #[.int .i64 (if t = false ∨ n = 1 then -11 else -7), .int .i64 0]) ∧ Gr w w' := by
  have U := fun w => Lib.hid (P3.rUnpack_ok false false c n hn w)
  generalize pw false false c n = o at *
  have N0 := Blk.new w #[.int .i64 s, .bool t, .bool k, .int .i64 r, .int .i64 o] 23
  have G0 := (Gr.refl w).al (.cells #[.int .i64 s, .bool t, .bool k, .int .i64 r, .int .i64 o] 23)
  obtain ⟨C, hC⟩ : ∃ C : Int, (if t = false ∨ n = 1 then -11 else -7) = C := ⟨_, rfl⟩
  have hk : (t = false ∧ C = -11) ∨ (t = true ∧ (n == 1) = true ∧ C = -11) ∨ (t = true ∧ (n == 1) = false ∧ C = -7) := by
    rw [← hC]
    cases t
    · exact .inl ⟨rfl, by simp⟩
    · by_cases h1 : n = 1
      · exact .inr (.inl ⟨rfl, by simp [h1], by simp [h1]⟩)
      · exact .inr (.inr ⟨rfl, by simp [h1], by simp [h1]⟩)
  have hz : (n == 0) = false := beq_eq_false_iff_ne.2 (by omega)
  rw [hC]
  clear hn hC h0
  rcases hk with ⟨rfl, rfl⟩ | ⟨rfl, h1, rfl⟩ | ⟨rfl, h1, rfl⟩
  all_goals (
    go_enter Try.func20, Try.ntmps20
    go_wp2_with fail
    with_reducible refine (U _).out.mono ?_
    rintro e w1 ⟨rfl, g1⟩
    have hlt := (N0.gr g1).lt
    obtain ⟨q1, -⟩ := (N0.gr g1).at_ (k := 1) rfl
    go_wp2_with fail
    go_ret2
    exact ⟨rfl, (G0.trans g1).al _⟩)
end
end P14
end Go.Proofs.Ytddgihbgdlnlbaa
