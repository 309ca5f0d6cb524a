/-
  Package grab: wanted.
-/
import Derived.Test.YtddgihbgdlnlbaaGrabLook
import Derived.Test.YtddgihbgdlnlbaaFlagsBits
namespace Go.Proofs.Ytddgihbgdlnlbaa
open Go.ChangeShapes Go.WideShapes Go.ChangeAt Go.RowKit
set_option linter.unusedVariables false
set_option linter.unusedSimpArgs false

namespace P14
open P3 (fl pw)
open P4 (Tm)

section
variable {s r : Int} {t k a b c : Bool} {n : Int} {w : World}
/-- One more where the mutex is kept from who comes. -/
def more (a c : Bool) : Int := if a || c then 1 else 0

set_option maxHeartbeats 4000000 in
theorem wanted_ok (h : OkS s r) (hn : OkN n) (hb : b = true ∨ k = false) (hm : OkN (n + more a c)) :
    Calls Try.prog 40 #[ov s t k r (pw a b c n)] w fun e w' => e = .returned (.int .i64 (pw (a || !c) (b && !k) (c || (t && a)) (n + more a c))) ∧ Gr w w' := by
  have L := fun w => Lib.hid (look_ok (t := t) (k := k) (a := a) (b := b) (c := c) (w := w) h hn)
  have HD := fun w => Lib.hid (held_is a b c n w)
  have HE := fun w => run_hold_neq a c false false w
  obtain ⟨v, hv⟩ : ∃ v, pw a b c n = v := ⟨_, rfl⟩
  obtain ⟨x, hx⟩ : ∃ x, pw a b c (n + 1) = x := ⟨_, rfl⟩
  have WT : OkN (n + 1) → ∀ w, Hid (Calls Try.prog 64 #[.int .i64 (pw a b c n), .int .i64 1] w fun e w' => e = .returned (.tuple #[.int .i64 (pw a b c (n + 1)), .int .i64 0]) ∧ Gr w w') :=
    fun h1 w => Lib.hid (P3.Waits_ok a b c n 1 (n + 1) hn (by unfold OkN at h1; unfold wrap64; omega) h1 w)
  obtain ⟨R, hR⟩ : ∃ R, pw (a || !c) (b && !k) (c || (t && a)) (n + more a c) = R := ⟨_, rfl⟩
  have HV := Lib.hid hv
  have HX := Lib.hid hx
  have HR := Lib.hid hR
  have HN := Lib.hid hn
  rw [hv] at L WT ⊢
  rw [hx] at WT
  rw [hR]
  clear h hv hx hR hn
  have hk : (b = true ∧ k = true) ∨ (b = true ∧ k = false) ∨ (b = false ∧ k = false) := by
    rcases hb with rfl | rfl
    · cases k <;> simp
    · cases b <;> simp
  clear hb
  have N0 := Lib.hid (Blk.new w #[.int .i64 s, .bool t, .bool k, .int .i64 r, .int .i64 v] 23)
  have N1 := Lib.hid fun w1 => Blk.new w1 #[.bool a, .bool b, .bool c, .int .i64 n] 43
  cases a <;> cases c
  · have HE : ∀ w, (binOp .neq 53 (.agg #[.bool false, .bool false]) (.agg #[.bool false, .bool false])).run Try.prog w = .ok (.bool false) w := fun w => HE w
    clear WT
    clear hm
    rcases hk with ⟨rfl, rfl⟩ | ⟨rfl, rfl⟩ | ⟨rfl, rfl⟩ <;> cases t
    all_goals (
      go_enter Try.func40, Try.ntmps40
      go_wp2_with fail
      with_reducible refine (L _).out.mono ?_
      rintro e w1 ⟨rfl, g1⟩
      have B0 := N0.out.gr g1
      have B1 := N1.out w1
      have G0 := ((Gr.refl w).al _).trans g1
      have hlt := B0.lt
      obtain ⟨q1, -⟩ := B0.at_ (k := 1) rfl
      obtain ⟨q2, -⟩ := B0.at_ (k := 2) rfl
      obtain ⟨q4, -⟩ := B0.at_ (k := 4) rfl
      clear g1
      go_wp2_with fail
      with_reducible refine (need_yes _ _).mono ?_
      rintro e w2 ⟨rfl, rfl⟩
      go_wp2_with fail
      with_reducible refine (HD _).out.mono ?_
      rintro e w3 ⟨rfl, g3⟩
      replace B0 := (B0.al _).gr g3
      replace B1 := B1.gr g3
      replace G0 := (G0.al _).trans g3
      replace hlt := B0.lt
      replace q1 := (B0.at_ (k := 1) rfl).1
      replace q2 := (B0.at_ (k := 2) rfl).1
      clear q4
      obtain ⟨e0, -⟩ := B1.at_ (k := 0) rfl
      obtain ⟨e2, -⟩ := B1.at_ (k := 2) rfl
      clear g3
      go_wp2_with fail
      go_ret
      refine ⟨?_, G0⟩
      show Ending.returned (Value.int .i64 _) = Ending.returned (Value.int .i64 R)
      refine congrArg _ (congrArg _ ?_)
      have hn := HN.out
      unfold OkN at hn
      rw [← HR.out, ← HV.out]
      try simp only [P3.or_1 (n := n) (by omega), P3.or_4 (n := n) (by omega), P3.not_2 (n := n) (by omega), P3.or_1 (n := n + 1) (by omega), P3.or_4 (n := n + 1) (by omega), P3.not_2 (n := n + 1) (by omega)]
      simp [more])
  · have HE : ∀ w, (binOp .neq 53 (.agg #[.bool false, .bool true]) (.agg #[.bool false, .bool false])).run Try.prog w = .ok (.bool true) w := fun w => HE w
    have WT := WT hm
    clear hm
    rcases hk with ⟨rfl, rfl⟩ | ⟨rfl, rfl⟩ | ⟨rfl, rfl⟩ <;> cases t
    all_goals (
      go_enter Try.func40, Try.ntmps40
      go_wp2_with fail
      with_reducible refine (L _).out.mono ?_
      rintro e w1 ⟨rfl, g1⟩
      have B0 := N0.out.gr g1
      have B1 := N1.out w1
      have G0 := ((Gr.refl w).al _).trans g1
      have hlt := B0.lt
      obtain ⟨q1, -⟩ := B0.at_ (k := 1) rfl
      obtain ⟨q2, -⟩ := B0.at_ (k := 2) rfl
      obtain ⟨q4, -⟩ := B0.at_ (k := 4) rfl
      clear g1
      go_wp2_with fail
      with_reducible refine (need_yes _ _).mono ?_
      rintro e w2 ⟨rfl, rfl⟩
      go_wp2_with fail
      with_reducible refine (HD _).out.mono ?_
      rintro e w3 ⟨rfl, g3⟩
      replace B0 := (B0.al _).gr g3
      replace B1 := B1.gr g3
      replace G0 := (G0.al _).trans g3
      replace hlt := B0.lt
      replace q1 := (B0.at_ (k := 1) rfl).1
      replace q2 := (B0.at_ (k := 2) rfl).1
      clear q4
      obtain ⟨e0, -⟩ := B1.at_ (k := 0) rfl
      obtain ⟨e2, -⟩ := B1.at_ (k := 2) rfl
      clear g3
      go_wp2_with fail
      with_reducible refine (WT _).out.mono ?_
      rintro e w4 ⟨rfl, g4⟩
      go_wp2_with fail
      with_reducible refine (sureI_yes _ _).mono ?_
      rintro e w5 ⟨rfl, rfl⟩
      replace B0 := B0.gr g4
      replace B1 := B1.gr g4
      replace G0 := G0.trans g4
      replace q1 := (B0.at_ (k := 1) rfl).1
      replace q2 := (B0.at_ (k := 2) rfl).1
      replace e0 := (B1.at_ (k := 0) rfl).1
      replace e2 := (B1.at_ (k := 2) rfl).1
      clear g4
      go_wp2_with fail
      go_ret
      refine ⟨?_, G0⟩
      show Ending.returned (Value.int .i64 _) = Ending.returned (Value.int .i64 R)
      refine congrArg _ (congrArg _ ?_)
      have hn := HN.out
      unfold OkN at hn
      rw [← HR.out, ← HX.out]
      try simp only [P3.or_1 (n := n) (by omega), P3.or_4 (n := n) (by omega), P3.not_2 (n := n) (by omega), P3.or_1 (n := n + 1) (by omega), P3.or_4 (n := n + 1) (by omega), P3.not_2 (n := n + 1) (by omega)]
      simp [more])
  · have HE : ∀ w, (binOp .neq 53 (.agg #[.bool true, .bool false]) (.agg #[.bool false, .bool false])).run Try.prog w = .ok (.bool true) w := fun w => HE w
    have WT := WT hm
    clear hm
    rcases hk with ⟨rfl, rfl⟩ | ⟨rfl, rfl⟩ | ⟨rfl, rfl⟩ <;> cases t
    all_goals (
      go_enter Try.func40, Try.ntmps40
      go_wp2_with fail
      with_reducible refine (L _).out.mono ?_
      rintro e w1 ⟨rfl, g1⟩
      have B0 := N0.out.gr g1
      have B1 := N1.out w1
      have G0 := ((Gr.refl w).al _).trans g1
      have hlt := B0.lt
      obtain ⟨q1, -⟩ := B0.at_ (k := 1) rfl
      obtain ⟨q2, -⟩ := B0.at_ (k := 2) rfl
      obtain ⟨q4, -⟩ := B0.at_ (k := 4) rfl
      clear g1
      go_wp2_with fail
      with_reducible refine (need_yes _ _).mono ?_
      rintro e w2 ⟨rfl, rfl⟩
      go_wp2_with fail
      with_reducible refine (HD _).out.mono ?_
      rintro e w3 ⟨rfl, g3⟩
      replace B0 := (B0.al _).gr g3
      replace B1 := B1.gr g3
      replace G0 := (G0.al _).trans g3
      replace hlt := B0.lt
      replace q1 := (B0.at_ (k := 1) rfl).1
      replace q2 := (B0.at_ (k := 2) rfl).1
      clear q4
      obtain ⟨e0, -⟩ := B1.at_ (k := 0) rfl
      obtain ⟨e2, -⟩ := B1.at_ (k := 2) rfl
      clear g3
      go_wp2_with fail
      with_reducible refine (WT _).out.mono ?_
      rintro e w4 ⟨rfl, g4⟩
      go_wp2_with fail
      with_reducible refine (sureI_yes _ _).mono ?_
      rintro e w5 ⟨rfl, rfl⟩
      replace B0 := B0.gr g4
      replace B1 := B1.gr g4
      replace G0 := G0.trans g4
      replace q1 := (B0.at_ (k := 1) rfl).1
      replace q2 := (B0.at_ (k := 2) rfl).1
      replace e0 := (B1.at_ (k := 0) rfl).1
      replace e2 := (B1.at_ (k := 2) rfl).1
      clear g4
      go_wp2_with fail
      go_ret
      refine ⟨?_, G0⟩
      show Ending.returned (Value.int .i64 _) = Ending.returned (Value.int .i64 R)
      refine congrArg _ (congrArg _ ?_)
      have hn := HN.out
      unfold OkN at hn
      rw [← HR.out, ← HX.out]
      try simp only [P3.or_1 (n := n) (by omega), P3.or_4 (n := n) (by omega), P3.not_2 (n := n) (by omega), P3.or_1 (n := n + 1) (by omega), P3.or_4 (n := n + 1) (by omega), P3.not_2 (n := n + 1) (by omega)]
      simp [more])
  · have HE : ∀ w, (binOp .neq 53 (.agg #[.bool true, .bool true]) (.agg #[.bool false, .bool false])).run Try.prog w = .ok (.bool true) w := fun w => HE w
    have WT := WT hm
    clear hm
    rcases hk with ⟨rfl, rfl⟩ | ⟨rfl, rfl⟩ | ⟨rfl, rfl⟩ <;> cases t
    all_goals (
      go_enter Try.func40, Try.ntmps40
      go_wp2_with fail
      with_reducible refine (L _).out.mono ?_
      rintro e w1 ⟨rfl, g1⟩
      have B0 := N0.out.gr g1
      have B1 := N1.out w1
      have G0 := ((Gr.refl w).al _).trans g1
      have hlt := B0.lt
      obtain ⟨q1, -⟩ := B0.at_ (k := 1) rfl
      obtain ⟨q2, -⟩ := B0.at_ (k := 2) rfl
      obtain ⟨q4, -⟩ := B0.at_ (k := 4) rfl
      clear g1
      go_wp2_with fail
      with_reducible refine (need_yes _ _).mono ?_
      rintro e w2 ⟨rfl, rfl⟩
      go_wp2_with fail
      with_reducible refine (HD _).out.mono ?_
      rintro e w3 ⟨rfl, g3⟩
      replace B0 := (B0.al _).gr g3
      replace B1 := B1.gr g3
      replace G0 := (G0.al _).trans g3
      replace hlt := B0.lt
      replace q1 := (B0.at_ (k := 1) rfl).1
      replace q2 := (B0.at_ (k := 2) rfl).1
      clear q4
      obtain ⟨e0, -⟩ := B1.at_ (k := 0) rfl
      obtain ⟨e2, -⟩ := B1.at_ (k := 2) rfl
      clear g3
      go_wp2_with fail
      with_reducible refine (WT _).out.mono ?_
      rintro e w4 ⟨rfl, g4⟩
      go_wp2_with fail
      with_reducible refine (sureI_yes _ _).mono ?_
      rintro e w5 ⟨rfl, rfl⟩
      replace B0 := B0.gr g4
      replace B1 := B1.gr g4
      replace G0 := G0.trans g4
      replace q1 := (B0.at_ (k := 1) rfl).1
      replace q2 := (B0.at_ (k := 2) rfl).1
      replace e0 := (B1.at_ (k := 0) rfl).1
      replace e2 := (B1.at_ (k := 2) rfl).1
      clear g4
      go_wp2_with fail
      go_ret
      refine ⟨?_, G0⟩
      show Ending.returned (Value.int .i64 _) = Ending.returned (Value.int .i64 R)
      refine congrArg _ (congrArg _ ?_)
      have hn := HN.out
      unfold OkN at hn
      rw [← HR.out, ← HX.out]
      try simp only [P3.or_1 (n := n) (by omega), P3.or_4 (n := n) (by omega), P3.not_2 (n := n) (by omega), P3.or_1 (n := n + 1) (by omega), P3.or_4 (n := n + 1) (by omega), P3.not_2 (n := n + 1) (by omega)]
      simp [more])
end
end P14
end Go.Proofs.Ytddgihbgdlnlbaa
