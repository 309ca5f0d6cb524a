/-
  Package grab: what Wants and Handed answer, whatever is remembered; the law's two words that are wanted.
-/
import Derived.Test.YtddgihbgdlnlbaaGrabFn
namespace Go.Proofs.Ytddgihbgdlnlbaa
open Go.ChangeShapes Go.WideShapes Go.ChangeAt Go.RowKit
set_option linter.unusedVariables false
set_option linter.unusedSimpArgs false

namespace P14
open P3 (fl pw)
open P4 (Tm)

section
variable {s r : Int} {t k a b c : Bool} {n u o x : Int} {w : World}
theorem Wants_yes (h : OkS s r) (hn : OkN n) (hb : b = true ∨ k = false) (hm : OkN (n + more a c)) :
    Calls Try.prog 10 #[ov s t k r (pw a b c n)] w fun e w' => e = .returned (.tuple #[.int .i64 (pw (a || !c) (b && !k) (c || (t && a)) (n + more a c)), .int .i64 0]) ∧ Gr w w' :=
  Wants_ok fun W => wanted_ok h hn hb hm
theorem Wants_bad (h : ¬ (OkS s r ∧ OkW o)) : Calls Try.prog 10 #[ov s t k r o] w fun e w' => e = .returned (.tuple #[.int .i64 0, .int .i64 1]) ∧ Gr w w' :=
  Wants_no fun W => wanted_bad h
theorem Wants_broken (h : OkS s r) (hn : OkN n) : Calls Try.prog 10 #[ov s t true r (pw a false c n)] w fun e w' => e = .returned (.tuple #[.int .i64 0, .int .i64 12]) ∧ Gr w w' :=
  Wants_no fun W => wanted_broken h hn
theorem Wants_over (h : OkS s r) (hn : OkN n) (hb : b = true ∨ k = false) (hac : (a || c) = true) (hm : ¬ OkN (n + 1)) :
    Calls Try.prog 10 #[ov s t k r (pw a b c n)] w fun e w' => e = .returned (.tuple #[.int .i64 0, .int .i64 10]) ∧ Gr w w' :=
  Wants_no fun W => wanted_over h hn hb hac hm
theorem Handed_bad (h : ¬ (OkS s r ∧ OkW o)) : Calls Try.prog 12 #[ov s t k r o] w fun e w' => e = .returned (.tuple #[.int .i64 0, .int .i64 1]) ∧ Gr w w' :=
  Handed_no fun W => taken_bad h
theorem Handed_broken (h : OkS s r) (hn : OkN n) (hb : ¬ (a = false ∧ b = false ∧ 0 < n)) : Calls Try.prog 12 #[ov s t k r (pw a b c n)] w fun e w' => e = .returned (.tuple #[.int .i64 0, .int .i64 12]) ∧ Gr w w' :=
  Handed_no fun W => taken_broken h hn hb
theorem Handed_yes (h : OkS s r) (hn : OkN n) (h0 : 0 < n) : Calls Try.prog 12 #[ov s t k r (pw false false c n)] w fun e w' => e = .returned (.tuple #[.int .i64 (chg t n), .int .i64 0]) ∧ Gr w w' :=
  Handed_ok fun W => taken_ok h hn h0
theorem Got_yes (h : OkS s r) (hn : OkN n) : Calls Try.prog 11 #[ov s t k r (pw a b c n)] w fun e w' => e = .returned (.tuple #[.bool (!a && !c), .int .i64 0]) ∧ Gr w w' :=
  Got_ok fun W => look_ok h hn
theorem Got_bad (h : ¬ (OkS s r ∧ OkW o)) : Calls Try.prog 11 #[ov s t k r o] w fun e w' => e = .returned (.tuple #[.bool false, .int .i64 1]) ∧ Gr w w' :=
  Got_no fun W => look_no h
theorem Wakes_yes (h : OkS s r) (hn : OkN n) : Calls Try.prog 9 #[ov s t k r (pw a b c n)] w fun e w' => e = .returned (.tuple #[.bool (!k && !b && decide (0 < n)), .int .i64 0]) ∧ Gr w w' :=
  Wakes_ok fun W => look_ok h hn
theorem Wakes_bad (h : ¬ (OkS s r ∧ OkW o)) : Calls Try.prog 9 #[ov s t k r o] w fun e w' => e = .returned (.tuple #[.bool false, .int .i64 1]) ∧ Gr w w' :=
  Wakes_no fun W => look_no h
end
theorem want9 (w : World) : Calls Try.prog 10 #[ov (-1) false false 0 1] w fun e w' => e = .returned (.tuple #[.int .i64 9, .int .i64 0]) ∧ Gr w w' :=
  Wants_yes (s := -1) (r := 0) (t := false) (k := false) (a := true) (b := false) (c := false) (n := 0) ⟨.inl rfl, by decide, by decide⟩ ⟨by decide, by decide⟩ (.inr rfl) ⟨by decide, by decide⟩
theorem want29 (w : World) : Calls Try.prog 10 #[ov 5 true true 0 19] w fun e w' => e = .returned (.tuple #[.int .i64 29, .int .i64 0]) ∧ Gr w w' :=
  Wants_yes (s := 5) (r := 0) (t := true) (k := true) (a := true) (b := true) (c := false) (n := 2) ⟨.inr ⟨by decide, by decide⟩, by decide, by decide⟩ ⟨by decide, by decide⟩ (.inl rfl) ⟨by decide, by decide⟩
set_option maxHeartbeats 1000000 in
theorem alive_is (w : World) : Calls Try.prog 17 #[] w fun e w' => e = .returned (.bool true) ∧ Gr w w' := by
  have c1 := fun w => Lib.hid (want9 w)
  have c2 := fun w => Lib.hid (want29 w)
  go_enter Try.func17, Try.ntmps17
  go_wp2_with fail
  with_reducible refine (c1 _).out.mono ?_
  rintro e w1 ⟨rfl, g1⟩
  go_wp2_with fail
  with_reducible refine (c2 _).out.mono ?_
  rintro e w2 ⟨rfl, g2⟩
  go_wp2_with fail
  go_ret
  exact ⟨rfl, g1.trans g2⟩
end P14
end Go.Proofs.Ytddgihbgdlnlbaa
