/-
  Package give: Left and Wakes, for every word.
-/
import Derived.Test.YtbnmcplfloghjaaDoorGive
import Derived.Test.YtbnmcplfloghjaaDoorBlk
namespace Go.Proofs.YtbnmcplfloghjaaDoor
open Go.ChangeShapes Go.WideShapes Go.ChangeAt Go.RowKit
set_option linter.unusedVariables false
set_option linter.unusedSimpArgs false
namespace P15
open P3 (fl pw lowI)

/-- How many may wait. -/
def OkN (n : Int) : Prop := 0 ≤ n ∧ n < 268435456
section
variable {a b c : Bool} {n v : Int} {w : World}
theorem state_is (hg : Glob w) (hn : OkN n) : Calls Tryd.prog 12 #[.int .i64 (pw a b c n)] w fun e w' => e = .returned (.int .i64 (st a b c)) ∧ w' = w :=
  state_of hg (P3.and7 (by unfold OkN at hn; omega))
theorem state_neg (hg : Glob w) : Calls Tryd.prog 12 #[.int .i64 (-1)] w fun e w' => e = .returned (.int .i64 3) ∧ w' = w :=
  state_of (a := true) (b := true) (c := true) hg (by decide)
set_option maxHeartbeats 1000000 in
theorem Left_no (h : ¬ (0 ≤ v ∧ v < 2147483648)) (h1 : v ≠ -1) : Calls Tryd.prog 5 #[.int .i64 v] w fun e w' => e = .returned (.tuple #[.bool false, .bool false, .int .i64 1]) ∧ Gr w w' := by
  have U := fun w => Lib.hid (P3.Unpack_no v h w)
  clear h
  go_enter Tryd.func5, Tryd.ntmps5
  go_wp2_with fail
  with_reducible refine (U _).out.mono ?_
  rintro e w1 ⟨rfl, g1⟩
  go_wp2_with fail
  go_ret3
  exact ⟨rfl, g1.al _⟩
set_option maxHeartbeats 1000000 in
theorem Left_neg (hg : Glob w) : Calls Tryd.prog 5 #[.int .i64 (-1)] w fun e w' => e = .returned (.tuple #[.bool false, .bool false, .int .i64 11]) ∧ Gr w w' := by
  have U := fun w => Lib.hid (P3.Unpack_no (-1) (by decide) w)
  have SS := fun W (g : Gr w W) => Lib.hid (state_neg (hg.gr g))
  go_enter Tryd.func5, Tryd.ntmps5
  go_wp2_with fail
  with_reducible refine (U _).out.mono ?_
  rintro e w1 ⟨rfl, g1⟩
  go_wp2_with fail
  with_reducible refine (SS _ (g1.al _)).out.mono ?_
  rintro e w2 ⟨rfl, rfl⟩
  go_wp2_with fail
  go_ret3
  exact ⟨rfl, g1.al _⟩
set_option maxHeartbeats 1000000 in
theorem Left_held (hg : Glob w) (hn : OkN n) : Calls Tryd.prog 5 #[.int .i64 (pw true b c n)] w fun e w' => e = .returned (.tuple #[.bool false, .bool false, .int .i64 11]) ∧ Gr w w' := by
  have U := fun w => Lib.hid (P3.Unpack_ok true b c n hn w)
  have SS := fun W (g : Gr w W) => Lib.hid (state_is (a := true) (b := b) (c := c) (hg.gr g) hn)
  simp only [st, if_true] at SS
  clear hn
  generalize pw true b c n = v at *
  go_enter Tryd.func5, Tryd.ntmps5
  go_wp2_with fail
  with_reducible refine (U _).out.mono ?_
  rintro e w1 ⟨rfl, g1⟩
  go_wp2_with fail
  with_reducible refine (SS _ (g1.al _)).out.mono ?_
  rintro e w2 ⟨rfl, rfl⟩
  go_wp2_with fail
  go_ret3
  exact ⟨rfl, g1.al _⟩
set_option maxHeartbeats 1000000 in
theorem Left_free (hg : Glob w) (hn : OkN n) {z : Bool} (hz : (pw false b c n == 0) = z) : Calls Tryd.prog 5 #[.int .i64 (pw false b c n)] w fun e w' => e = .returned (.tuple #[.bool z, .bool c, .int .i64 0]) ∧ Gr w w' := by
  have U := fun w => Lib.hid (P3.Unpack_ok false b c n hn w)
  have SS := fun W (g : Gr w W) => Lib.hid (state_is (a := false) (b := b) (c := c) (hg.gr g) hn)
  obtain ⟨k, hk, h3, h2⟩ : ∃ k, st false b c = k ∧ (k == 3) = false ∧ (k == 2) = c := ⟨_, rfl, by cases b <;> cases c <;> rfl, by cases b <;> cases c <;> rfl⟩
  rw [hk] at SS
  clear hn hk
  generalize pw false b c n = v at *
  go_enter Tryd.func5, Tryd.ntmps5
  go_wp2_with fail
  with_reducible refine (U _).out.mono ?_
  rintro e w1 ⟨rfl, g1⟩
  go_wp2_with fail
  with_reducible refine (SS _ (g1.al _)).out.mono ?_
  rintro e w2 ⟨rfl, rfl⟩
  go_wp2_with fail
  go_ret3
  exact ⟨rfl, g1.al _⟩
set_option maxHeartbeats 1000000 in
theorem Wakes_no (h : ¬ (0 ≤ v ∧ v < 2147483648)) : Calls Tryd.prog 6 #[.int .i64 v] w fun e w' => e = .returned (.tuple #[.bool false, .int .i64 0, .int .i64 1]) ∧ Gr w w' := by
  have U := fun w => Lib.hid (P3.Unpack_no v h w)
  clear h
  go_enter Tryd.func6, Tryd.ntmps6
  go_wp2_with fail
  with_reducible refine (U _).out.mono ?_
  rintro e w1 ⟨rfl, g1⟩
  go_wp2_with fail
  go_ret3
  exact ⟨rfl, g1.al _⟩
set_option maxHeartbeats 1000000 in
theorem Wakes_none (hg : Glob w) (hn : OkN n) (h : n = 0 ∨ st a b c ≠ 0) : Calls Tryd.prog 6 #[.int .i64 (pw a b c n)] w fun e w' => e = .returned (.tuple #[.bool false, .int .i64 0, .int .i64 0]) ∧ Gr w w' := by
  have U := fun w => Lib.hid (P3.Unpack_ok a b c n hn w)
  have SS := fun W (g : Gr w W) => Lib.hid (state_is (a := a) (b := b) (c := c) (hg.gr g) hn)
  generalize st a b c = k at *
  generalize pw a b c n = v at *
  clear hn
  by_cases h0 : n = 0
  · subst h0
    clear h
    go_enter Tryd.func6, Tryd.ntmps6
    go_wp2_with fail
    with_reducible refine (U _).out.mono ?_
    rintro e w1 ⟨rfl, g1⟩
    go_wp2_with fail
    go_ret3
    exact ⟨rfl, g1.al _⟩
  · have hk : (k != 0) = true := by simpa using h.resolve_left h0
    have hn0 : (n == 0) = false := by simpa using h0
    clear h h0
    go_enter Tryd.func6, Tryd.ntmps6
    go_wp2_with fail
    with_reducible refine (U _).out.mono ?_
    rintro e w1 ⟨rfl, g1⟩
    go_wp2_with fail
    with_reducible refine (SS _ (g1.al _)).out.mono ?_
    rintro e w2 ⟨rfl, rfl⟩
    go_wp2_with fail
    go_ret3
    exact ⟨rfl, g1.al _⟩
set_option maxHeartbeats 1000000 in
theorem Wakes_yes (hg : Glob w) (hn : OkN n) (h0 : 0 < n) {m : Int} (hm : n - 1 = m) : Calls Tryd.prog 6 #[.int .i64 (pw false false false n)] w fun e w' => e = .returned (.tuple #[.bool true, .int .i64 (pw false true false m), .int .i64 0]) ∧ Gr w w' := by
  have U := fun w => Lib.hid (P3.Unpack_ok false false false n hn w)
  have SS := fun W (g : Gr w W) => Lib.hid (state_is (a := false) (b := false) (c := false) (hg.gr g) hn)
  have WW := fun w => Lib.hid (P3.Waits_ok false false false n (-1) m hn (by unfold OkN at hn; unfold wrap64; omega) (by unfold OkN at hn; omega) w)
  have HO := Lib.hid (P3.or_2 (a := false) (b := false) (c := false) (n := m) (by unfold OkN at hn; omega))
  have hne : n ≠ 0 := by omega
  simp only [show st false false false = 0 from rfl] at SS
  clear hn hm h0
  generalize pw false false false n = v at *
  generalize pw false false false m = x at *
  generalize pw false true false m = y at *
  go_enter Tryd.func6, Tryd.ntmps6
  go_wp2_with fail
  with_reducible refine (U _).out.mono ?_
  rintro e w1 ⟨rfl, g1⟩
  go_wp2_with fail
  with_reducible refine (SS _ (g1.al _)).out.mono ?_
  rintro e w2 ⟨rfl, rfl⟩
  go_wp2_with fail
  with_reducible refine (WW _).out.mono ?_
  rintro e w3 ⟨rfl, g3⟩
  go_wp2_with fail
  go_ret3
  exact ⟨by rw [HO.out]; rfl, (g1.al _).trans g3⟩
end
end P15
end Go.Proofs.YtbnmcplfloghjaaDoor
