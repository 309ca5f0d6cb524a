/-
  Package clock: what Since and Late answer; deadboltref04's Right, Since and Late (taken out of stage 4's texts).
-/
import Derived.Test.YtddgihbgdlnlbaaClockNear
namespace Go.Proofs.Ytddgihbgdlnlbaa
open Go.ChangeShapes Go.WideShapes Go.ChangeAt Go.RowKit
set_option linter.unusedVariables false

namespace P4

/-- In the world w the block k holds a pair. -/
def PrAt (w : World) (k : Nat) (a b : Int) : Prop :=
  w.cell? ⟨k, 0, none⟩ = some (.int .i64 a) ∧ w.cell? ⟨k, 1, none⟩ = some (.int .i64 b) ∧ k < w.heap.size
theorem PrAt.new (w : World) (a b : Int) (t : TypeId) : PrAt (w.alloc (.cells #[.int .i64 a, .int .i64 b] t)) w.heap.size a b := ⟨by simp, by simp, by simp⟩
theorem PrAt.gr {w w' : World} {k : Nat} {a b : Int} (h : PrAt w k a b) (g : Gr w w') : PrAt w' k a b := by
  obtain ⟨h0, h1, h2⟩ := h
  exact ⟨(g.cell (p := ⟨k, 0, none⟩) h2).trans h0, (g.cell (p := ⟨k, 1, none⟩) h2).trans h1, Nat.lt_of_lt_of_le h2 g.size⟩

/-- How far the second is behind the first. -/
def gap (a b : Int) : Int := max 0 (b - a)
set_option maxHeartbeats 1000000 in
theorem apart_yes (a b : Int) (ha : Tm a) (hb : Tm b) (w : World) : Calls Try.prog 70 #[pr a b] w fun e w' => e = .returned (.tuple #[.int .i64 (gap a b), .int .i64 0]) ∧ Gr w w' := by
  have c := fun w => Lib.hid ((both_yes ha hb) ▸ right_ok a b w)
  obtain ⟨x, hx⟩ : ∃ x, gap a b = x := ⟨_, rfl⟩
  have HX := Lib.hid hx
  rw [hx]
  clear hx
  unfold Tm at ha hb
  go_enter Try.func70, Try.ntmps70
  go_wp2_with fail
  refine (c _).out.mono ?_
  rintro e w1 ⟨rfl, hb1⟩
  have F := (PrAt.new w a b 74).gr hb1
  have G := ((Gr.refl w).al (.cells #[.int .i64 a, .int .i64 b] 74)).trans hb1
  clear hb1
  obtain ⟨f0, f1, f2⟩ := F
  go_wp2_with fail
  all_goals (
    go_ret2
    have hx := HX.out
    unfold gap at hx
    clear HX
    first
      | (obtain rfl : x = b - a := by omega
         exact ⟨rfl, G⟩)
      | (obtain rfl : x = 0 := by omega
         exact ⟨rfl, G⟩))
set_option maxHeartbeats 1000000 in
theorem apart_no (a b : Int) (h : ¬ (Tm a ∧ Tm b)) (w : World) : Calls Try.prog 70 #[pr a b] w fun e w' => e = .returned (.tuple #[.int .i64 0, .int .i64 1]) ∧ Gr w w' := by
  have c := fun w => Lib.hid ((both_no h) ▸ right_ok a b w)
  clear h
  go_enter Try.func70, Try.ntmps70
  go_wp2_with fail
  refine (c _).out.mono ?_
  rintro e w1 ⟨rfl, hb1⟩
  go_wp2_with fail
  go_ret2
  exact ⟨rfl, ((Gr.refl w).al _).trans hb1⟩

section
variable {a b r s : Int}
/-- What a call of two numbers answers. -/
def Ap (a b r s : Int) : Prop := (Tm a ∧ Tm b ∧ r = gap a b ∧ s = 0) ∨ (¬ (Tm a ∧ Tm b) ∧ r = 0 ∧ s = 1)
theorem Ap.ex (a b : Int) : ∃ r s, Ap a b r s := by
  by_cases h : Tm a ∧ Tm b
  · exact ⟨_, _, .inl ⟨h.1, h.2, rfl, rfl⟩⟩
  · exact ⟨_, _, .inr ⟨h, rfl, rfl⟩⟩
theorem apart_is (h : Ap a b r s) (w : World) : Calls Try.prog 70 #[pr a b] w fun e w' => e = .returned (.tuple #[.int .i64 r, .int .i64 s]) ∧ Gr w w' := by
  rcases h with ⟨h1, h2, rfl, rfl⟩ | ⟨h1, rfl, rfl⟩
  · exact apart_yes a b h1 h2 w
  · exact apart_no a b h1 w
set_option maxHeartbeats 1000000 in
theorem Since_is (h : Ap a b r s) (w : World) : Calls Try.prog 57 #[.int .i64 b, .int .i64 a] w fun e w' => e = .returned (.tuple #[.int .i64 r, .int .i64 s]) ∧ Gr w w' := by
  have c := fun w => Lib.hid (apart_is h w)
  clear h
  go_enter Try.func57, Try.ntmps57
  go_wp2_with fail
  refine (c _).out.mono ?_
  rintro e w1 ⟨rfl, hb1⟩
  go_wp2_with fail
  go_ret2
  exact ⟨rfl, hb1⟩
set_option maxHeartbeats 1000000 in
theorem Late_is (h : Ap a b r s) (B : Bool) (hB : decide (s = 0 ∧ 1000000 < r) = B) (w : World) : Calls Try.prog 30 #[.int .i64 b, .int .i64 a] w fun e w' => e = .returned (.tuple #[.bool B, .int .i64 s]) ∧ Gr w w' := by
  have c := fun w => Lib.hid (Since_is h w)
  subst hB
  rcases h with ⟨_, _, hr, rfl⟩ | ⟨_, hr, rfl⟩
  · clear hr
    rw [show decide ((0 : Int) = 0 ∧ 1000000 < r) = decide (1000000 < r) by simp]
    go_enter Try.func30, Try.ntmps30
    go_wp2_with fail
    refine (c _).out.mono ?_
    rintro e w1 ⟨rfl, hb1⟩
    go_wp2_with fail
    go_ret2
    exact ⟨rfl, hb1⟩
  · clear hr
    rw [decide_eq_false (fun h => absurd h.1 (by decide))]
    go_enter Try.func30, Try.ntmps30
    go_wp2_with fail
    refine (c _).out.mono ?_
    rintro e w1 ⟨rfl, hb1⟩
    go_wp2_with fail
    go_ret2
    exact ⟨rfl, hb1⟩
end
set_option maxHeartbeats 1000000 in
theorem rRight_yes (t : Int) (h : Tm t) (w : World) : Calls Try.prog 25 #[.int .i64 t] w fun e w' => e = .returned (.bool true) ∧ w' = w := by
  unfold Tm at h
  go_enter Try.func25, Try.ntmps25
  go_wp2_with fail
  go_ret
  exact ⟨rfl, rfl⟩
set_option maxHeartbeats 1000000 in
theorem rRight_no (t : Int) (h : ¬ Tm t) (w : World) : Calls Try.prog 25 #[.int .i64 t] w fun e w' => e = .returned (.bool false) ∧ w' = w := by
  unfold Tm at h
  by_cases h1 : t < 0
  · clear h
    go_enter Try.func25, Try.ntmps25
    go_wp2_with fail
    go_ret
    exact ⟨rfl, rfl⟩
  · have h2 : 4611686018427387904 < t := by omega
    have h3 : 0 ≤ t := by omega
    have h4 : decide (t ≤ 4611686018427387904) = false := decide_eq_false (by omega)
    clear h h1
    go_enter Try.func25, Try.ntmps25
    go_wp2_with fail
    go_ret
    first
      | exact ⟨rfl, rfl⟩
      | exact ⟨congrArg _ (congrArg _ h4), rfl⟩
set_option maxHeartbeats 1000000 in
theorem rSince_ok (a b : Int) (ha : Tm a) (hb : Tm b) (w : World) : Calls Try.prog 69 #[.int .i64 b, .int .i64 a] w fun e w' => e = .returned (.int .i64 (gap a b)) ∧ w' = w := by
  unfold Tm at ha hb
  obtain ⟨x, hx⟩ : ∃ x, gap a b = x := ⟨_, rfl⟩
  have HX := Lib.hid hx
  rw [hx]
  clear hx
  go_enter Try.func69, Try.ntmps69
  go_wp2_with fail
  all_goals (
    go_ret
    refine ⟨?_, rfl⟩
    show Ending.returned (Value.int .i64 _) = Ending.returned (Value.int .i64 x)
    refine congrArg _ (congrArg _ ?_)
    have hx := HX.out
    unfold gap at hx
    omega)
set_option maxHeartbeats 1000000 in
theorem rLate_ok (a b : Int) (ha : Tm a) (hb : Tm b) (w : World) : Calls Try.prog 55 #[.int .i64 b, .int .i64 a] w fun e w' => e = .returned (.bool (decide (1000000 < gap a b))) ∧ w' = w := by
  have c := fun w => Lib.hid (rSince_ok a b ha hb w)
  clear ha hb
  generalize gap a b = x at *
  go_enter Try.func55, Try.ntmps55
  go_wp2_with fail
  refine (c _).out.mono ?_
  rintro e w1 ⟨rfl, rfl⟩
  go_wp2_with fail
  go_ret
  exact ⟨rfl, rfl⟩

end P4
end Go.Proofs.Ytddgihbgdlnlbaa
