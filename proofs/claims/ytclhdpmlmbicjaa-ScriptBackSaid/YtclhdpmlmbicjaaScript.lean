/-
  Package script: Read, Right, Write, and the numbers that are read one by one.
-/
import Derived.Test.YtclhdpmlmbicjaaScriptMath
import Derived.Test.YtclhdpmlmbicjaaClockTick
import Derived.Test.YtclhdpmlmbicjaaInts
import Derived.Test.YtclhdpmlmbicjaaBlk
import Derived.RangeFuncNested
import Derived.RangeFuncBound
import Derived.RangeFuncCalls
import Derived.RangeFuncLeaves
import Derived.Shelf.Abstract
import Derived.OwnWalkIn
import Derived.TacticsInMore
import Derived.LoopNIn
import Derived.LoopIn
namespace Go.Proofs.Ytclhdpmlmbicjaa
open Go.ChangeShapes Go.WideShapes Go.ChangeAt Go.RowKit Go.Shelf
set_option linter.unusedVariables false
set_option linter.unusedSimpArgs false
namespace P13

/-- A pick, as the program hands it on. -/
abbrev pk (p : Pk) : Value := .agg #[.int .i64 p.1, .int .i64 p.2]
set_option maxHeartbeats 1000000 in
theorem Read_is (v : Int) (w : World) : Calls Try.prog 9 #[.int .i64 v] w fun e w' => e = .returned (pk (rd v)) ∧ Gr w w' := by
  by_cases h : 0 ≤ v
  · rw [rd_step h]
    go_enter Try.func9, Try.ntmps9
    go_wp2_with fail
    exact bodyPost_ret (v := pk (0, v % 16)) (by simp [results, Try.results9, go_sem, Int.tmod_eq_emod_of_nonneg h]) rfl ⟨rfl, (Gr.refl w).al _⟩
  · rw [rd_tick (by omega)]
    by_cases h2 : v < -4611686018427387904
    · rw [show max v (-4611686018427387904) = -4611686018427387904 from by omega]
      go_enter Try.func9, Try.ntmps9
      go_wp2_with fail
      exact bodyPost_ret (v := pk (1, - -4611686018427387904)) (by simp [results, Try.results9, go_sem]) rfl ⟨rfl, (Gr.refl w).al _⟩
    · rw [show max v (-4611686018427387904) = v from by omega]
      go_enter Try.func9, Try.ntmps9
      go_wp2_with fail
      exact bodyPost_ret (v := pk (1, -v)) (by simp [results, Try.results9, go_sem]) rfl ⟨rfl, (Gr.refl w).al _⟩
theorem ret_bool {x v : Bool} (h : x = true ↔ v = true) : Ending.returned (.bool x) = Ending.returned (.bool v) := by
  have : x = v := by cases x <;> cases v <;> simp_all
  rw [this]
set_option maxHeartbeats 1000000 in
theorem Right_is (p : Pk) (v : Bool) (hv : v = true ↔ okP p) (w : World) : Calls Try.prog 11 #[pk p] w fun e w' => e = .returned (.bool v) ∧ Gr w w' := by
  obtain ⟨k, n⟩ := p
  obtain ⟨B, hB⟩ : ∃ B, (n == P4.near n) = B := ⟨_, rfl⟩
  have c := fun w => Lib.hid (P4.Right_ok n B hB w)
  have hB' : 0 < n → (B = true ↔ n ≤ 4611686018427387904) := fun h => by
    rw [← hB, beq_iff_eq]
    unfold P4.near
    omega
  have HV := Lib.hid hv
  have HB := Lib.hid hB'
  clear hv hB hB'
  by_cases h0 : k = 0
  · subst h0
    go_enter Try.func11, Try.ntmps11
    go_wp2_with fail
    all_goals (
      go_ret
      refine ⟨ret_bool ?_, (Gr.refl w).al _⟩
      rw [HV.out]
      simp [okP]
      omega)
  · by_cases h1 : k = 1
    · subst h1
      go_enter Try.func11, Try.ntmps11
      go_wp2_with fail
      · rename_i hn
        refine (c _).out.mono ?_
        rintro e w1 ⟨rfl, hb1⟩
        go_wp2_with fail
        go_ret
        refine ⟨ret_bool ?_, ((Gr.refl w).al _).trans hb1⟩
        rw [HV.out, HB.out (by assumption)]
        simp [okP]
        omega
      · go_ret
        refine ⟨ret_bool ?_, (Gr.refl w).al _⟩
        rw [HV.out]
        simp [okP]
        omega
    · have e0 : (k == 0) = false := beq_eq_false_iff_ne.2 h0
      have e1 : (k == 1) = false := beq_eq_false_iff_ne.2 h1
      go_enter Try.func11, Try.ntmps11
      go_wp2_with fail
      go_ret
      refine ⟨ret_bool ?_, (Gr.refl w).al _⟩
      rw [HV.out]
      simp [okP, h0, h1]
/-- What Write answers. -/
def WrR (p : Pk) (n e : Int) : Prop := (okP p ∧ n = nm p ∧ e = 0) ∨ (¬ okP p ∧ n = 0 ∧ e = 1)
theorem WrR.any (p : Pk) : ∃ n e, WrR p n e := by
  by_cases h : okP p
  · exact ⟨_, _, .inl ⟨h, rfl, rfl⟩⟩
  · exact ⟨_, _, .inr ⟨h, rfl, rfl⟩⟩
set_option maxHeartbeats 1000000 in
theorem Write_is {p : Pk} {n e : Int} (h : WrR p n e) (w : World) : Calls Try.prog 6 #[pk p] w fun x w' => x = .returned (.tuple #[.int .i64 n, .int .i64 e]) ∧ Gr w w' := by
  have B := Blk.new w #[.int .i64 p.1, .int .i64 p.2] 23
  rcases h with ⟨hp, rfl, rfl⟩ | ⟨hp, rfl, rfl⟩
  · have c := fun w => Lib.hid (Right_is p true ⟨fun _ => hp, fun _ => rfl⟩ w)
    obtain ⟨k, m⟩ := p
    unfold nm
    by_cases h1 : k = 1
    · subst h1
      have hm : 0 < m ∧ m ≤ 4611686018427387904 := by
        rcases hp with ⟨h, _⟩ | ⟨_, h, h'⟩
        · exact absurd h (show ¬ (1 : Int) = 0 by decide)
        · exact ⟨h, h'⟩
      clear hp
      go_enter Try.func6, Try.ntmps6
      go_wp2_with fail
      refine (c _).out.mono ?_
      rintro e w1 ⟨rfl, hb1⟩
      have B1 := B.gr hb1
      have f0 := (B1.at_ (k := 0) rfl).1
      have f1 := (B1.at_ (k := 1) rfl).1
      have fl := B1.lt
      go_wp2_with fail
      go_ret2
      exact ⟨rfl, ((Gr.refl w).al _).trans hb1⟩
    · have e1 : (k == 1) = false := beq_eq_false_iff_ne.2 h1
      simp only [h1, if_false]
      clear hp
      go_enter Try.func6, Try.ntmps6
      go_wp2_with fail
      refine (c _).out.mono ?_
      rintro e w1 ⟨rfl, hb1⟩
      have B1 := B.gr hb1
      have f0 := (B1.at_ (k := 0) rfl).1
      have f1 := (B1.at_ (k := 1) rfl).1
      have fl := B1.lt
      go_wp2_with fail
      go_ret2
      exact ⟨rfl, ((Gr.refl w).al _).trans hb1⟩
  · have c := fun w => Lib.hid (Right_is p false ⟨(fun h => by cases h), fun h => absurd h hp⟩ w)
    obtain ⟨k, m⟩ := p
    clear hp
    go_enter Try.func6, Try.ntmps6
    go_wp2_with fail
    refine (c _).out.mono ?_
    rintro e w1 ⟨rfl, hb1⟩
    go_wp2_with fail
    go_ret2
    exact ⟨rfl, ((Gr.refl w).al _).trans hb1⟩
end P13
end Go.Proofs.Ytclhdpmlmbicjaa
