/-
  deadboltref14: what Wants answers.
-/
import Derived.Test.YtddgihbgdlnlbaaGrabWant
namespace Go.Proofs.Ytddgihbgdlnlbaa
open Go.ChangeShapes Go.WideShapes Go.ChangeAt Go.RowKit
set_option linter.unusedVariables false
set_option linter.unusedSimpArgs false

namespace P14
open P3 (fl pw)
open P4 (Tm)

section
variable {s r : Int} {t k a b c : Bool} {n u o x : Int} {w : World}
set_option maxHeartbeats 1000000 in
theorem rWants_broken (hn : OkN n) : Calls Try.prog 19 #[ov s t true r (pw a false c n)] w fun e w' => e = .returned (.tuple #[.int .i64 0, .int .i64 12]) ∧ Gr w w' := by
  have U := fun w => Lib.hid (P3.rUnpack_ok a false c n hn w)
  generalize pw a false c n = o at *
  have N0 := Blk.new w #[.int .i64 s, .bool t, .bool true, .int .i64 r, .int .i64 o] 23
  have G0 := (Gr.refl w).al (.cells #[.int .i64 s, .bool t, .bool true, .int .i64 r, .int .i64 o] 23)
  clear hn
  go_enter Try.func19, Try.ntmps19
  go_wp2_with fail
  with_reducible refine (U _).out.mono ?_
  rintro e w1 ⟨rfl, g1⟩
  have hlt := (N0.gr g1).lt
  obtain ⟨q2, -⟩ := (N0.gr g1).at_ (k := 2) rfl
  go_wp2_with fail
  go_ret2
  exact ⟨rfl, (G0.trans g1).al _⟩
set_option maxHeartbeats 8000000 in
theorem rWants_is (hn : OkN n) (hb : b = true ∨ k = false) {Mb : Bool} (hM : Mb = true ↔ OkN (n + more a c)) :
    Calls Try.prog 19 #[ov s t k r (pw a b c n)] w fun e w' =>
      e = .returned (.tuple #[.int .i64 (bif Mb then pw (a || !c) (b && !k) (c || (t && a)) (n + more a c) else 0), .int .i64 (bif Mb then 0 else 10)]) ∧ Gr w w' := by
  obtain ⟨m, hm1⟩ : ∃ m, n + 1 = m := ⟨_, rfl⟩
  have hw1 : wrap64 (n + 1) = m := by rw [← hm1]; unfold OkN at hn; unfold wrap64; omega
  have hmore : n + more a c = if a || c then m else n := by unfold more; cases (a || c) <;> simp [hm1]
  have MY : ∀ w, Hid (Calls Try.prog 48 #[fl (a || !c) (b && !k) (c || (t && a)) (if a || c then m else n)] w fun e w' => e = .returned (.bool Mb) ∧ Gr w w') := by
    rw [← hmore]
    intro w
    cases Mb
    · exact Lib.hid (P3.rMay_no _ _ _ _ (fun h => absurd (hM.2 h) (by decide)) w)
    · exact Lib.hid (P3.rMay_yes _ _ _ _ (hM.1 rfl) w)
  have PK : Mb = true → ∀ w, Hid (Calls Try.prog 49 #[fl (a || !c) (b && !k) (c || (t && a)) (if a || c then m else n)] w fun e w' => e = .returned (.int .i64 (pw (a || !c) (b && !k) (c || (t && a)) (n + more a c))) ∧ Gr w w') := by
    rintro rfl
    rw [← hmore]
    exact fun w => Lib.hid (P3.rPack_ok _ _ _ _ (hM.1 rfl) w)
  generalize pw (a || !c) (b && !k) (c || (t && a)) (n + more a c) = R at *
  clear hM hmore hm1
  have F0 : Hid (∀ (W W' : World), Gr ((W.alloc (.cells #[.bool a, .bool b, .bool c, .int .i64 n] 43)).alloc (.cells #[.bool (a || !c), .bool (b && !k), .bool (c || (t && a)), .int .i64 (if a || c then m else n)] 43)) W' →
      W'.cell? ⟨W.heap.size + 1, 0, none⟩ = some (.bool (a || !c)) ∧ W'.cell? ⟨W.heap.size + 1, 1, none⟩ = some (.bool (b && !k)) ∧ W'.cell? ⟨W.heap.size + 1, 2, none⟩ = some (.bool (c || (t && a))) ∧ W'.cell? ⟨W.heap.size + 1, 3, none⟩ = some (.int .i64 (if a || c then m else n)) ∧ W.heap.size + 1 < W'.heap.size) := by
    refine Lib.hid fun W W' g => ?_
    have B := (Blk.new (W.alloc (.cells #[.bool a, .bool b, .bool c, .int .i64 n] 43)) #[.bool (a || !c), .bool (b && !k), .bool (c || (t && a)), .int .i64 (if a || c then m else n)] 43).gr g
    rw [World.size_alloc] at B
    exact ⟨(B.at_ (k := 0) rfl).1, (B.at_ (k := 1) rfl).1, (B.at_ (k := 2) rfl).1, (B.at_ (k := 3) rfl).1, B.lt⟩
  have U := fun w => Lib.hid (P3.rUnpack_ok a b c n hn w)
  generalize pw a b c n = o at *
  have N0 := Blk.new w #[.int .i64 s, .bool t, .bool k, .int .i64 r, .int .i64 o] 23
  have G0 := (Gr.refl w).al (.cells #[.int .i64 s, .bool t, .bool k, .int .i64 r, .int .i64 o] 23)
  clear hn
  have hk : (b = true ∧ k = true) ∨ (b = true ∧ k = false) ∨ (b = false ∧ k = false) := by
    rcases hb with rfl | rfl
    · cases k <;> simp
    · cases b <;> simp
  clear hb
  have ht : (a = false ∧ c = false ∧ t = false) ∨ (a = false ∧ c = false ∧ t = true) ∨ (a = true ∧ c = false ∧ t = false) ∨ (a = true ∧ c = false ∧ t = true) ∨ (a = false ∧ c = true) ∨ (a = true ∧ c = true) := by
    cases a <;> cases c <;> cases t <;> simp
  rcases hk with ⟨rfl, rfl⟩ | ⟨rfl, rfl⟩ | ⟨rfl, rfl⟩ <;> rcases ht with ⟨rfl, rfl, rfl⟩ | ⟨rfl, rfl, rfl⟩ | ⟨rfl, rfl, rfl⟩ | ⟨rfl, rfl, rfl⟩ | ⟨rfl, rfl⟩ | ⟨rfl, rfl⟩
  all_goals simp only [Bool.true_and, Bool.false_and, Bool.and_true, Bool.and_false, Bool.true_or, Bool.false_or, Bool.or_true, Bool.or_false, Bool.not_true, Bool.not_false, if_true, if_false, Bool.false_eq_true] at MY PK F0
  all_goals (
    go_enter Try.func19, Try.ntmps19
    go_wp2_with fail
    with_reducible refine (U _).out.mono ?_
    rintro e w1 ⟨rfl, g1⟩
    have hlt := (N0.gr g1).lt
    obtain ⟨q1, -⟩ := (N0.gr g1).at_ (k := 1) rfl
    obtain ⟨q2, -⟩ := (N0.gr g1).at_ (k := 2) rfl
    have G1 := Lib.hid (G0.trans g1)
    clear g1
    go_wp2_with fail
    with_reducible refine (MY _).out.mono ?_
    rintro e w2 ⟨rfl, g2⟩
    have hlt2 := Lib.hid g2.size
    have G2 := Lib.hid (((G1.out.al _).al _).trans g2)
    have F2 := F0.out _ _ g2
    obtain ⟨p0, p1, p2, p3, hl3⟩ := F2
    clear g2 G1
    cases Mb
    · go_wp2_with fail
      go_ret2
      exact ⟨rfl, G2.out⟩
    · go_wp2_with fail
      with_reducible refine (PK (by first | rfl | trivial) _).out.mono ?_
      rintro e w3 ⟨rfl, g3⟩
      go_wp2_with fail
      go_ret2
      exact ⟨rfl, G2.out.trans g3⟩)
end
end P14
end Go.Proofs.Ytddgihbgdlnlbaa
