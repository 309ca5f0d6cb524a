/-
  deadboltref15: Left and Wakes, for every word; and that one is handed on.
-/
import Derived.Test.YtbnmcplfloghjaaDoorGiveFn
namespace Go.Proofs.YtbnmcplfloghjaaDoor
open Go.ChangeShapes Go.WideShapes Go.ChangeAt Go.RowKit
set_option linter.unusedVariables false
set_option linter.unusedSimpArgs false
namespace P15
open P3 (fl pw lowI)

section
variable {a b c : Bool} {n v : Int} {w : World}
theorem run_starving (a b c : Bool) (n : Int) (w : World) : (Instr.field 32 (fl a b c n) 2).run Tryd.prog w = .ok (.bool c) w := by kernel_rfl
theorem run_locked (a b c : Bool) (n : Int) (w : World) : (Instr.field 32 (fl a b c n) 0).run Tryd.prog w = .ok (.bool a) w := by kernel_rfl
set_option maxHeartbeats 1000000 in
theorem rLeft_no (h : ¬ (0 ≤ v ∧ v < 2147483648)) (h1 : v ≠ -1) : Calls Tryd.prog 7 #[.int .i64 v] w fun e w' => e = .returned (.tuple #[.bool false, .bool false, .int .i64 1]) ∧ Gr w w' := by
  have U := fun w => Lib.hid (P3.rWord_no v h w)
  clear h
  go_enter Tryd.func7, Tryd.ntmps7
  go_wp2_with fail
  with_reducible refine (U _).out.mono ?_
  rintro e w1 ⟨rfl, rfl⟩
  go_wp2_with fail
  go_ret3
  exact ⟨rfl, Gr.refl _⟩
set_option maxHeartbeats 1000000 in
theorem rLeft_neg : Calls Tryd.prog 7 #[.int .i64 (-1)] w fun e w' => e = .returned (.tuple #[.bool false, .bool false, .int .i64 11]) ∧ Gr w w' := by
  go_enter Tryd.func7, Tryd.ntmps7
  go_wp2_with fail
  go_ret3
  exact ⟨rfl, Gr.refl _⟩
set_option maxHeartbeats 1000000 in
theorem rLeft_held (hn : OkN n) : Calls Tryd.prog 7 #[.int .i64 (pw true b c n)] w fun e w' => e = .returned (.tuple #[.bool false, .bool false, .int .i64 11]) ∧ Gr w w' := by
  obtain ⟨x, hx, hl⟩ := P3.pw_nat true b c n hn
  have hw : 0 ≤ pw true b c n ∧ pw true b c n < 2147483648 := by omega
  have h1 : pw true b c n ≠ -1 := by omega
  have RW := fun w => Lib.hid (P3.rWord_yes _ hw w)
  have U := fun w => Lib.hid (P3.rUnpack_ok true b c n hn w)
  have FL := fun w => run_locked true b c n w
  clear hn hx hl hw
  generalize pw true b c n = v at *
  go_enter Tryd.func7, Tryd.ntmps7
  go_wp2_with fail
  with_reducible refine (RW _).out.mono ?_
  rintro e w1 ⟨rfl, rfl⟩
  go_wp2_with fail
  with_reducible refine (U _).out.mono ?_
  rintro e w2 ⟨rfl, g2⟩
  go_wp2_with fail
  go_ret3
  exact ⟨rfl, g2⟩
set_option maxHeartbeats 1000000 in
theorem rLeft_free (hn : OkN n) {z : Bool} (hz : (pw false b c n == 0) = z) : Calls Tryd.prog 7 #[.int .i64 (pw false b c n)] w fun e w' => e = .returned (.tuple #[.bool z, .bool c, .int .i64 0]) ∧ Gr w w' := by
  obtain ⟨x, hx, hl⟩ := P3.pw_nat false b c n hn
  have hw : 0 ≤ pw false b c n ∧ pw false b c n < 2147483648 := by omega
  have h1 : pw false b c n ≠ -1 := by omega
  have RW := fun w => Lib.hid (P3.rWord_yes _ hw w)
  have U := fun w => Lib.hid (P3.rUnpack_ok false b c n hn w)
  have FL := fun w => run_locked false b c n w
  have FS := fun w => run_starving false b c n w
  clear hn hx hl hw
  generalize pw false b c n = v at *
  go_enter Tryd.func7, Tryd.ntmps7
  go_wp2_with fail
  with_reducible refine (RW _).out.mono ?_
  rintro e w1 ⟨rfl, rfl⟩
  go_wp2_with fail
  with_reducible refine (U _).out.mono ?_
  rintro e w2 ⟨rfl, g2⟩
  go_wp2_with fail
  with_reducible refine (U _).out.mono ?_
  rintro e w3 ⟨rfl, g3⟩
  go_wp2_with fail
  go_ret3
  exact ⟨rfl, g2.trans g3⟩
set_option maxHeartbeats 1000000 in
theorem rWakes_none (hn : OkN n) (h : n = 0 ∨ st a b c ≠ 0) : Calls Tryd.prog 10 #[.int .i64 (pw a b c n)] w fun e w' => e = .returned (.tuple #[.bool false, .int .i64 0]) ∧ Gr w w' := by
  have U := fun w => Lib.hid (P3.rUnpack_ok a b c n hn w)
  have hs : (n == 0 || a || b || c) = true := by
    revert h
    unfold st
    by_cases h0 : n = 0
    · simp [h0]
    · cases a <;> cases b <;> cases c <;> simp [h0]
  obtain ⟨h0, hh0⟩ : ∃ x, (n == 0) = x := ⟨_, rfl⟩
  rw [hh0] at hs
  clear h hn
  generalize pw a b c n = v at *
  cases h0 <;> cases a <;> cases b <;> cases c <;> first | (exact absurd hs (by decide)) | skip
  all_goals (
    clear hs
    go_enter Tryd.func10, Tryd.ntmps10
    go_wp2_with fail
    with_reducible refine (U _).out.mono ?_
    rintro e w1 ⟨rfl, g1⟩
    go_wp2_with fail
    go_ret2
    exact ⟨rfl, g1.al _⟩)
set_option maxHeartbeats 1000000 in
theorem rWakes_yes (hn : OkN n) (h0 : 0 < n) {m : Int} (hm : n - 1 = m) : Calls Tryd.prog 10 #[.int .i64 (pw false false false n)] w fun e w' => e = .returned (.tuple #[.bool true, .int .i64 (pw false true false m)]) ∧ Gr w w' := by
  have U := fun w => Lib.hid (P3.rUnpack_ok false false false n hn w)
  have PP := fun w => Lib.hid (P3.rPack_ok false true false m (by unfold OkN at hn; omega) w)
  have hw : wrap64 (n - 1) = m := by unfold OkN at hn; unfold wrap64; omega
  have hne : (n == 0) = false := by simp; omega
  clear hn hm h0
  generalize pw false false false n = v at *
  generalize pw false true false m = y at *
  go_enter Tryd.func10, Tryd.ntmps10
  go_wp2_with fail
  with_reducible refine (U _).out.mono ?_
  rintro e w1 ⟨rfl, g1⟩
  go_wp2_with fail
  with_reducible refine (PP _).out.mono ?_
  rintro e w3 ⟨rfl, g3⟩
  go_wp2_with fail
  go_ret2
  exact ⟨rfl, (g1.al _).trans g3⟩
set_option maxHeartbeats 1000000 in
theorem alive_is (hg : Glob w) : Calls Tryd.prog 8 #[] w fun e w' => e = .returned (.bool true) ∧ Gr w w' := by
  have c1 := Lib.hid (Left_free (b := false) (c := true) (n := 2) hg ⟨by decide, by decide⟩ (z := false) rfl)
  have c2 := fun W (g : Gr w W) => Lib.hid (Wakes_yes (n := 2) (m := 1) (hg.gr g) ⟨by decide, by decide⟩ (by decide) rfl)
  rw [show pw false false true 2 = 20 from rfl] at c1
  rw [show pw false false false 2 = 16 from rfl, show pw false true false 1 = 10 from rfl] at c2
  go_enter Tryd.func8, Tryd.ntmps8
  go_wp2_with fail
  with_reducible refine c1.out.mono ?_
  rintro e w1 ⟨rfl, g1⟩
  go_wp2_with fail
  with_reducible refine (c2 _ g1).out.mono ?_
  rintro e w2 ⟨rfl, g2⟩
  go_wp2_with fail
  go_ret
  exact ⟨rfl, g1.trans g2⟩
end
end P15
end Go.Proofs.YtbnmcplfloghjaaDoor
