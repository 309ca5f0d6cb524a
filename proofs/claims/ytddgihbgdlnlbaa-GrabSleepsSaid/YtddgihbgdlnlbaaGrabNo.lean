/-
  Package grab: wanted, where it gives up; taken.
-/
import Derived.Test.YtddgihbgdlnlbaaGrabLook
namespace Go.Proofs.Ytddgihbgdlnlbaa
open Go.ChangeShapes Go.WideShapes Go.ChangeAt Go.RowKit
set_option linter.unusedVariables false
set_option linter.unusedSimpArgs false

namespace P14
open P3 (fl pw)
open P4 (Tm)

section
variable {s r : Int} {t k a b c : Bool} {n : Int} {w : World}
set_option maxHeartbeats 1000000 in
theorem wanted_bad {o : Int} (h : ¬ (OkS s r ∧ OkW o)) :
    Calls Try.prog 40 #[ov s t k r o] w fun e w' => e = .panicked (pan 1) ∧ Gr w w' := by
  have L := fun w => Lib.hid (look_no (t := t) (k := k) (w := w) h)
  have G0 := Lib.hid ((Gr.refl w).al (.cells #[.int .i64 s, .bool t, .bool k, .int .i64 r, .int .i64 o] 23))
  clear h
  go_enter Try.func40, Try.ntmps40
  go_wp2_with fail
  with_reducible refine (L _).out.mono ?_
  rintro e w1 ⟨rfl, g1⟩
  go_wp2_with fail
  exact ⟨rfl, rfl, G0.out.trans g1⟩
set_option maxHeartbeats 1000000 in
theorem wanted_broken (h : OkS s r) (hn : OkN n) :
    Calls Try.prog 40 #[ov s t true r (pw a false c n)] w fun e w' => e = .panicked (pan 12) ∧ Gr w w' := by
  have L := fun w => Lib.hid (look_ok (t := t) (k := true) (a := a) (b := false) (c := c) (w := w) h hn)
  generalize pw a false c n = v at *
  have N0 := Blk.new w #[.int .i64 s, .bool t, .bool true, .int .i64 r, .int .i64 v] 23
  have G0 := (Gr.refl w).al (.cells #[.int .i64 s, .bool t, .bool true, .int .i64 r, .int .i64 v] 23)
  clear h hn
  go_enter Try.func40, Try.ntmps40
  go_wp2_with fail
  with_reducible refine (L _).out.mono ?_
  rintro e w1 ⟨rfl, g1⟩
  have hlt := (N0.gr g1).lt
  obtain ⟨q2, -⟩ := (N0.gr g1).at_ (k := 2) rfl
  have G := Lib.hid ((G0.trans g1).al (.cells #[.bool a, .bool false, .bool c, .int .i64 n] 43))
  clear N0 G0 g1
  go_wp2_with fail
  with_reducible refine (need_no _ _).mono ?_
  rintro e w2 ⟨rfl, rfl⟩
  go_wp2_with fail
  exact ⟨rfl, rfl, G.out⟩
set_option maxHeartbeats 1000000 in
theorem wanted_over (h : OkS s r) (hn : OkN n) (hb : b = true ∨ k = false) (hac : (a || c) = true) (hm : ¬ OkN (n + 1)) :
    Calls Try.prog 40 #[ov s t k r (pw a b c n)] w fun e w' => e = .panicked (pan 10) ∧ Gr w w' := by
  have L := fun w => Lib.hid (look_ok (t := t) (k := k) (a := a) (b := b) (c := c) (w := w) h hn)
  have HD := fun w => Lib.hid (held_is a b c n w)
  have hq : (!hEq a c false false) = true := by cases a <;> cases c <;> first | rfl | exact absurd hac (by decide)
  have HE := fun w => hq ▸ run_hold_neq a c false false w
  have WT := fun w => Lib.hid (P3.Waits_no a b c n 1 (n + 1) hn (by unfold OkN at hn; unfold wrap64; omega) hm w)
  generalize pw a b c n = v at *
  have N0 := Blk.new w #[.int .i64 s, .bool t, .bool k, .int .i64 r, .int .i64 v] 23
  have G0 := (Gr.refl w).al (.cells #[.int .i64 s, .bool t, .bool k, .int .i64 r, .int .i64 v] 23)
  have N1 := Lib.hid fun w1 => Blk.new w1 #[.bool a, .bool b, .bool c, .int .i64 n] 43
  have GN := Lib.hid fun (w1 : World) (g : Gr _ w1) => (G0.trans g).al (.cells #[.bool a, .bool b, .bool c, .int .i64 n] 43)
  have hk : b = true ∨ (b = false ∧ k = false) := by cases b <;> simp_all
  clear h hn hac hm hq hb
  rcases hk with rfl | ⟨rfl, rfl⟩
  all_goals (
    go_enter Try.func40, Try.ntmps40
    go_wp2_with fail
    with_reducible refine (L _).out.mono ?_
    rintro e w1 ⟨rfl, g1⟩
    have hlt := (N0.gr g1).lt
    obtain ⟨q2, -⟩ := (N0.gr g1).at_ (k := 2) rfl
    obtain ⟨q4, -⟩ := (N0.gr g1).at_ (k := 4) rfl
    have G := GN.out w1 g1
    clear N0 G0 GN g1
    go_wp2_with fail
    with_reducible refine (need_yes _ _).mono ?_
    rintro e w2 ⟨rfl, rfl⟩
    go_wp2_with fail
    with_reducible refine (HD _).out.mono ?_
    rintro e w3 ⟨rfl, g3⟩
    go_wp2_with fail
    with_reducible refine (WT _).out.mono ?_
    rintro e w4 ⟨rfl, g4⟩
    go_wp2_with fail
    with_reducible refine (sureI_no _ rfl _).mono ?_
    rintro e w5 ⟨rfl, rfl⟩
    go_wp2_with fail
    exact ⟨rfl, rfl, (G.trans g3).trans g4⟩)

/-- What taken comes to. -/
def chg (t : Bool) (n : Int) : Int := if t = false ∨ n = 1 then -11 else -7
set_option maxHeartbeats 1000000 in
theorem taken_bad {o : Int} (h : ¬ (OkS s r ∧ OkW o)) :
    Calls Try.prog 43 #[ov s t k r o] w fun e w' => e = .panicked (pan 1) ∧ Gr w w' := by
  have L := fun w => Lib.hid (look_no (t := t) (k := k) (w := w) h)
  have G0 := Lib.hid ((Gr.refl w).al (.cells #[.int .i64 s, .bool t, .bool k, .int .i64 r, .int .i64 o] 23))
  clear h
  go_enter Try.func43, Try.ntmps43
  go_wp2_with fail
  with_reducible refine (L _).out.mono ?_
  rintro e w1 ⟨rfl, g1⟩
  go_wp2_with fail
  exact ⟨rfl, rfl, G0.out.trans g1⟩
set_option maxHeartbeats 1000000 in
theorem taken_broken (h : OkS s r) (hn : OkN n) (hb : ¬ (a = false ∧ b = false ∧ 0 < n)) :
    Calls Try.prog 43 #[ov s t k r (pw a b c n)] w fun e w' => e = .panicked (pan 12) ∧ Gr w w' := by
  have L := fun w => Lib.hid (look_ok (t := t) (k := k) (a := a) (b := b) (c := c) (w := w) h hn)
  generalize pw a b c n = v at *
  have N0 := Blk.new w #[.int .i64 s, .bool t, .bool k, .int .i64 r, .int .i64 v] 23
  have G0 := (Gr.refl w).al (.cells #[.int .i64 s, .bool t, .bool k, .int .i64 r, .int .i64 v] 23)
  have GN := Lib.hid fun (w1 : World) (g : Gr _ w1) => (G0.trans g).al (.cells #[.bool a, .bool b, .bool c, .int .i64 n] 43)
  have hk : a = true ∨ (a = false ∧ b = true) ∨ (a = false ∧ b = false ∧ decide (0 < n) = false) := by
    cases a <;> cases b <;> simp_all
  clear h hn hb
  rcases hk with rfl | ⟨rfl, rfl⟩ | ⟨rfl, rfl, h0⟩
  all_goals (
    go_enter Try.func43, Try.ntmps43
    go_wp2_with fail
    with_reducible refine (L _).out.mono ?_
    rintro e w1 ⟨rfl, g1⟩
    have hlt := (N0.gr g1).lt
    have G := GN.out w1 g1
    clear N0 G0 GN g1
    go_wp2_with fail
    with_reducible refine (need_no _ _).mono ?_
    rintro e w2 ⟨rfl, rfl⟩
    go_wp2_with fail
    exact ⟨rfl, rfl, G⟩)
set_option maxHeartbeats 1000000 in
theorem taken_ok (h : OkS s r) (hn : OkN n) (h0 : 0 < n) :
    Calls Try.prog 43 #[ov s t k r (pw false false c n)] w fun e w' => e = .returned (.int .i64 (chg t n)) ∧ Gr w w' := by
  have L := fun w => Lib.hid (look_ok (t := t) (k := k) (a := false) (b := false) (c := c) (w := w) h hn)
  generalize pw false false c n = v at *
  have N0 := Blk.new w #[.int .i64 s, .bool t, .bool k, .int .i64 r, .int .i64 v] 23
  have G0 := (Gr.refl w).al (.cells #[.int .i64 s, .bool t, .bool k, .int .i64 r, .int .i64 v] 23)
  have hk : (t = false ∧ chg t n = -11) ∨ (t = true ∧ (n == 1) = true ∧ chg t n = -11) ∨ (t = true ∧ (n == 1) = false ∧ chg t n = -7) := by
    unfold chg
    cases t
    · exact .inl ⟨rfl, by simp⟩
    · by_cases h1 : n = 1
      · exact .inr (.inl ⟨rfl, by simp [h1], by simp [h1]⟩)
      · exact .inr (.inr ⟨rfl, by simp [h1], by simp [h1]⟩)
  obtain ⟨C, hC⟩ : ∃ C, chg t n = C := ⟨_, rfl⟩
  rw [hC] at hk ⊢
  clear h hn hC
  rcases hk with ⟨rfl, rfl⟩ | ⟨rfl, h1, rfl⟩ | ⟨rfl, h1, rfl⟩
  all_goals (
    go_enter Try.func43, Try.ntmps43
    go_wp2_with fail
    with_reducible refine (L _).out.mono ?_
    rintro e w1 ⟨rfl, g1⟩
    have hlt := (N0.gr g1).lt
    obtain ⟨q1, -⟩ := (N0.gr g1).at_ (k := 1) rfl
    have G := (G0.trans g1).al (.cells #[.bool false, .bool false, .bool c, .int .i64 n] 43)
    clear N0 G0 g1
    go_wp2_with fail
    with_reducible refine (need_yes _ _).mono ?_
    rintro e w2 ⟨rfl, rfl⟩
    go_wp2_with fail
    go_ret
    exact ⟨rfl, G⟩)
end
end P14
end Go.Proofs.Ytddgihbgdlnlbaa
