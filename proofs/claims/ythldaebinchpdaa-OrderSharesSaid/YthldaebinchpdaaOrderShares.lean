/-
  Proved: deadboltlaw05.OrderShares returns true at every input (a share of nothing by nothing is no number, of something by nothing infinite, of nothing by something 0 with its sign; else it has the sign of both, and the other one's other sign; all shares of one whole are at most 1). No condition.
-/
import Derived.Test.YthldaebinchpdaaOrderRef
import Derived.Test.YthldaebinchpdaaEnds
namespace Go.Proofs.Ythldaebinchpdaa
open Go.ChangeShapes Go.WideShapes Go.ChangeAt Go.RowKit
set_option linter.unusedVariables false

/-- The bits of what is no number, as the world's tape has them. -/
def nanr (w : World) (x y : Nat) : Nat := (Question.nanBits .f64 x y).cut (w.tape w.drawn (.nanBits .f64 x y))
theorem nanr_is (w : World) (x y : Nat) : F64 (nanr w x y) ∧ key (nanr w x y) = 9218868437227405313 := by
  unfold nanr
  generalize w.tape w.drawn (.nanBits .f64 x y) = t
  have e : (Question.nanBits .f64 x y).cut t = (t % 2) * 9223372036854775808 + 9218868437227405312 + 1 + (t / 2) % 4503599627370495 := rfl
  rw [e]
  have h1 := Nat.mod_lt t (show 2 > 0 by decide)
  have h2 := Nat.mod_lt (t / 2) (show 4503599627370495 > 0 by decide)
  generalize t % 2 = a at *
  generalize t / 2 % 4503599627370495 = b at *
  refine ⟨by unfold F64; omega, key_nan ?_⟩
  unfold isN rg
  exact decide_eq_true (by omega)
theorem run_float_none (w : World) (op : BinOp) (hop : op = .add ∨ op = .quo) (t : TypeId) (x y : Nat) (h : floatBits op .f64 x y = none) : (binOp op t (.float .f64 x) (.float .f64 y)).run Try.prog w = .ok (.float .f64 (nanr w x y)) w.drew := by
  unfold floatBits at h
  rcases hop with rfl | rfl <;> simp only at h <;> simp [binOp, Op.floatArith, h, Question.forced] <;> rfl

set_option maxHeartbeats 1000000 in
theorem Share_none (w : World) : Calls Try.prog 18 #[.int .i64 0, .int .i64 0] w fun e w' => e = .returned (.float .f64 (nanr w 0 0)) ∧ Gr w w' := by
  have q := fun w => run_float_none w .quo (.inr rfl) 22 0 0 (by decide +kernel)
  have z := ofInt_zero
  go_enter Try.func18, Try.ntmps18
  go_wp2_with fail
  go_ret
  exact ⟨rfl, (Gr.refl w).dr⟩

set_option maxHeartbeats 2000000 in
theorem shares_nan (w : World) : Calls Try.prog 6 #[.int .i64 0, .int .i64 0] w fun e w' => e = .returned (.bool true) ∧ Gr w w' := by
  have c1 := Lib.hid (Share_none w)
  have c2 := fun w1 => Lib.hid (Class_ok (nanr w 0 0) (nanr_is w 0 0).1 w1)
  rw [(nanr_is w 0 0).2, show clk 9218868437227405313 = 6 by decide] at c2
  generalize nanr w 0 0 = r at *
  go_enter Try.func6, Try.ntmps6
  go_wp2_with fail
  refine c1.out.mono ?_
  rintro e w1 ⟨rfl, G⟩
  go_wp2_with fail
  refine (c2 _).out.mono ?_
  rintro e w2 ⟨rfl, rfl⟩
  go_wp2_with fail
  refine (alive_ok _).mono ?_
  rintro e w3 ⟨rfl, rfl⟩
  go_wp2_with fail
  go_ret
  exact ⟨rfl, G⟩

/-- The cases of two signs. -/
def Shc (a b k : Int) (s : Nat) : Prop :=
  (b = 0 ∧ 0 < a ∧ k = 5) ∨ (b = 0 ∧ a < 0 ∧ k = 0) ∨ (a < 0 ∧ b < 0 ∧ k = 4) ∨ (a < 0 ∧ 0 < b ∧ k = 1) ∨ (0 < a ∧ b < 0 ∧ k = 1) ∨ (0 < a ∧ 0 < b ∧ b < a ∧ k = 4)
section
variable {w : World} {a b k : Int} {s t u : Nat}
set_option maxHeartbeats 4000000 in
theorem shares_run (ha : -9223372036854775808 ≤ a ∧ a ≤ 9223372036854775807) (hb : -9223372036854775808 ≤ b ∧ b ≤ 9223372036854775807) (h : Shc a b k s) (hu : Op.negFloat .f64 s = u)
    (kS : ∀ w, Calls Try.prog 18 #[.int .i64 a, .int .i64 b] w fun e w' => e = .returned (.float .f64 s) ∧ w' = w)
    (kT : a ≠ -9223372036854775808 → ∀ w, Calls Try.prog 18 #[.int .i64 (-a), .int .i64 b] w fun e w' => e = .returned (.float .f64 t) ∧ w' = w)
    (kC : ∀ w, Calls Try.prog 10 #[.float .f64 s] w fun e w' => e = .returned (.int .i64 k) ∧ w' = w)
    (kA : ∀ w, Calls Try.prog 17 #[.float .f64 t, .float .f64 u] w fun e w' => e = .returned (.bool true) ∧ w' = w) :
    Calls Try.prog 6 #[.int .i64 a, .int .i64 b] w fun e w' => e = .returned (.bool true) ∧ Gr w w' := by
  have un : ∀ x, Op.unary .neg (.float .f64 x) = pure (.float .f64 (Op.negFloat .f64 x)) := fun _ => rfl
  have c1 := fun w => Lib.hid (kS w)
  have c2 := fun w => Lib.hid (kC w)
  have c4 := fun w => Lib.hid (kA w)
  clear kS kC kA
  have a0 : a ≠ 0 := by unfold Shc at h; omega
  have a1 : (a == 0) = false := beq_eq_false_iff_ne.2 a0
  have a2 : (a != 0) = true := bne_iff_ne.2 a0
  by_cases hm : a = -9223372036854775808
  · subst hm
    clear kT
    rcases h with ⟨rfl, h1, rfl⟩ | ⟨rfl, h1, rfl⟩ | ⟨h1, h2, rfl⟩ | ⟨h1, h2, rfl⟩ | ⟨h1, h2, rfl⟩ | ⟨h1, h2, h3, rfl⟩
    · omega
    rotate_left 3
    · omega
    · omega
    · go_enter Try.func6, Try.ntmps6
      go_wp2_with fail
      refine (c1 _).out.mono ?_
      rintro e w1 ⟨rfl, rfl⟩
      go_wp2_with fail
      refine (c2 _).out.mono ?_
      rintro e w2 ⟨rfl, rfl⟩
      go_wp2_with fail
      refine (alive_ok _).mono ?_
      rintro e w3 ⟨rfl, rfl⟩
      go_wp2_with fail
      go_ret
      exact ⟨rfl, Gr.refl _⟩
    all_goals (
      have b1 : (b == 0) = false := beq_eq_false_iff_ne.2 (by omega)
      first
        | (have d2 : decide (b < 0) = true := decide_eq_true (by omega))
        | (have d2 : decide (b < 0) = false := decide_eq_false (by omega))
      go_enter Try.func6, Try.ntmps6
      go_wp2_with fail
      refine (c1 _).out.mono ?_
      rintro e w1 ⟨rfl, rfl⟩
      go_wp2_with fail
      refine (c2 _).out.mono ?_
      rintro e w2 ⟨rfl, rfl⟩
      go_wp2_with fail
      refine (alive_ok _).mono ?_
      rintro e w3 ⟨rfl, rfl⟩
      go_wp2_with fail
      go_ret
      exact ⟨rfl, Gr.refl _⟩)
  · have c3 := fun w => Lib.hid (kT hm w)
    have a3 : (a != -9223372036854775808) = true := bne_iff_ne.2 hm
    have HM : -9223372036854775808 < a := by omega
    clear kT hm a0
    rcases h with ⟨rfl, h1, rfl⟩ | ⟨rfl, h1, rfl⟩ | ⟨h1, h2, rfl⟩ | ⟨h1, h2, rfl⟩ | ⟨h1, h2, rfl⟩ | ⟨h1, h2, h3, rfl⟩
    rotate_left 2
    all_goals (
      first
        | (have b1 : (b == 0) = false := beq_eq_false_iff_ne.2 (by omega))
        | skip
      first
        | (have d1 : decide (a < 0) = true := decide_eq_true (by omega))
        | (have d1 : decide (a < 0) = false := decide_eq_false (by omega))
      first
        | (have d2 : decide (b < 0) = true := decide_eq_true (by omega))
        | (have d2 : decide (b < 0) = false := decide_eq_false (by omega))
        | skip
      go_enter Try.func6, Try.ntmps6
      go_wp2_with fail
      refine (c1 _).out.mono ?_
      rintro e w1 ⟨rfl, rfl⟩
      go_wp2_with fail
      refine (c2 _).out.mono ?_
      rintro e w2 ⟨rfl, rfl⟩
      go_wp2_with fail
      refine (alive_ok _).mono ?_
      rintro e w3 ⟨rfl, rfl⟩
      go_wp2_with fail
      refine (c3 _).out.mono ?_
      rintro e w4 ⟨rfl, rfl⟩
      go_wp2_with fail
      refine (c4 _).out.mono ?_
      rintro e w5 ⟨rfl, rfl⟩
      go_wp2_with fail
      go_ret
      exact ⟨rfl, Gr.refl _⟩)

/-- At least 0, and at most 1. -/
def Sh01 (s : Nat) (k : Int) : Prop := (k = 4 ∧ (ord s 0 == some .gt) = true ∧ (ord s 0 == some .eq) = false ∧ ∃ C : Bool, (ord s 4607182418800017408 == some .lt) = C ∧ (ord s 4607182418800017408 == some .eq) = !C) ∨
  (k = 3 ∧ (ord s 0 == some .gt) = false ∧ (ord s 0 == some .eq) = true ∧ (ord s 4607182418800017408 == some .lt) = true ∧ (ord s 4607182418800017408 == some .eq) = false)
set_option maxHeartbeats 4000000 in
theorem shares_part (ha : 0 < a ∧ a ≤ 9223372036854775807) (hb : 0 < b ∧ b ≤ 9223372036854775807) (hab : a ≤ b) (h : (ord s 0 == some .gt) = true ∧ (ord s 0 == some .eq) = false ∧ ∃ C : Bool, (ord s 4607182418800017408 == some .lt) = C ∧ (ord s 4607182418800017408 == some .eq) = !C) (hu : Op.negFloat .f64 s = u)
    (kS : ∀ w, Calls Try.prog 18 #[.int .i64 a, .int .i64 b] w fun e w' => e = .returned (.float .f64 s) ∧ w' = w)
    (kT : ∀ w, Calls Try.prog 18 #[.int .i64 (-a), .int .i64 b] w fun e w' => e = .returned (.float .f64 t) ∧ w' = w)
    (kC : ∀ w, Calls Try.prog 10 #[.float .f64 s] w fun e w' => e = .returned (.int .i64 4) ∧ w' = w)
    (kA : ∀ w, Calls Try.prog 17 #[.float .f64 t, .float .f64 u] w fun e w' => e = .returned (.bool true) ∧ w' = w) :
    Calls Try.prog 6 #[.int .i64 a, .int .i64 b] w fun e w' => e = .returned (.bool true) ∧ Gr w w' := by
  have un : ∀ x, Op.unary .neg (.float .f64 x) = pure (.float .f64 (Op.negFloat .f64 x)) := fun _ => rfl
  have c1 := fun w => Lib.hid (kS w)
  have c2 := fun w => Lib.hid (kC w)
  have c3 := fun w => Lib.hid (kT w)
  have c4 := fun w => Lib.hid (kA w)
  clear kS kC kA kT
  have a1 : (a == 0) = false := beq_eq_false_iff_ne.2 (by omega)
  have a2 : (a != 0) = true := bne_iff_ne.2 (by omega)
  have a3 : (a != -9223372036854775808) = true := bne_iff_ne.2 (by omega)
  have b1 : (b == 0) = false := beq_eq_false_iff_ne.2 (by omega)
  have d1 : decide (a < 0) = false := decide_eq_false (by omega)
  have d2 : decide (b < 0) = false := decide_eq_false (by omega)
  obtain ⟨g1, g2, C, g3, g4⟩ := h
  cases C
  all_goals (
    go_enter Try.func6, Try.ntmps6
    go_wp2_with fail
    refine (c1 _).out.mono ?_
    rintro e w1 ⟨rfl, rfl⟩
    go_wp2_with fail
    refine (c2 _).out.mono ?_
    rintro e w2 ⟨rfl, rfl⟩
    go_wp2_with fail
    refine (alive_ok _).mono ?_
    rintro e w3 ⟨rfl, rfl⟩
    go_wp2_with fail
    refine (c3 _).out.mono ?_
    rintro e w4 ⟨rfl, rfl⟩
    go_wp2_with fail
    refine (c4 _).out.mono ?_
    rintro e w5 ⟨rfl, rfl⟩
    go_wp2_with fail
    go_ret
    exact ⟨rfl, Gr.refl _⟩)
set_option maxHeartbeats 4000000 in
theorem shares_zero (hb : -9223372036854775808 ≤ b ∧ b ≤ 9223372036854775807) (h : (0 < b ∧ k = 3 ∧ s = 0) ∨ (b < 0 ∧ k = 2 ∧ s = 9223372036854775808))
    (kS : ∀ w, Calls Try.prog 18 #[.int .i64 0, .int .i64 b] w fun e w' => e = .returned (.float .f64 s) ∧ w' = w)
    (kC : ∀ w, Calls Try.prog 10 #[.float .f64 s] w fun e w' => e = .returned (.int .i64 k) ∧ w' = w) :
    Calls Try.prog 6 #[.int .i64 0, .int .i64 b] w fun e w' => e = .returned (.bool true) ∧ Gr w w' := by
  have c1 := fun w => Lib.hid (kS w)
  have c2 := fun w => Lib.hid (kC w)
  clear kS kC
  have b1 : (b == 0) = false := beq_eq_false_iff_ne.2 (by omega)
  have g1 : (ord 0 0 == some .gt) = false := by decide +kernel
  have g2 : (ord 0 0 == some .eq) = true := by decide +kernel
  have g3 : (ord 0 4607182418800017408 == some .lt) = true := by decide +kernel
  rcases h with ⟨h1, rfl, rfl⟩ | ⟨h1, rfl, rfl⟩
  all_goals (
    go_enter Try.func6, Try.ntmps6
    go_wp2_with fail
    refine (c1 _).out.mono ?_
    rintro e w1 ⟨rfl, rfl⟩
    go_wp2_with fail
    refine (c2 _).out.mono ?_
    rintro e w2 ⟨rfl, rfl⟩
    go_wp2_with fail
    refine (alive_ok _).mono ?_
    rintro e w3 ⟨rfl, rfl⟩
    go_wp2_with fail
    go_ret
    exact ⟨rfl, Gr.refl _⟩)
end

theorem xor63 {r : Nat} (h : r < 9223372036854775808) : r ^^^ 9223372036854775808 = 9223372036854775808 + r := by
  show r ^^^ 2 ^ 63 = 2 ^ 63 + r
  apply Nat.eq_of_testBit_eq
  intro i
  rw [Nat.testBit_xor, Nat.testBit_two_pow]
  rcases Nat.lt_trichotomy i 63 with hi | rfl | hi
  · rw [Nat.testBit_two_pow_add_gt hi, decide_eq_false (by omega), Bool.xor_false]
  · rw [Nat.testBit_two_pow_add_eq, decide_eq_true rfl, Bool.xor_true]
  · have h1 : 2 ^ 64 ≤ 2 ^ i := Nat.pow_le_pow_right (by decide) hi
    rw [Nat.testBit_lt_two_pow (by omega), Nat.testBit_lt_two_pow (by omega), decide_eq_false (by omega)]
    rfl
theorem neg_word (s : Bool) {r : Nat} (h : r < 9223372036854775808) : Op.negFloat .f64 (Ieee.double.word s r) = Ieee.double.word (!s) r := by
  show Ieee.double.word s r ^^^ 9223372036854775808 = _
  rw [word_eq, word_eq]
  cases s
  · simp only [Bool.false_eq_true, if_false, Bool.not_false, if_true]
    exact xor63 h
  · simp only [if_true, Bool.not_true, Bool.false_eq_true, if_false]
    rw [← xor63 h, Nat.xor_assoc, Nat.xor_self, Nat.xor_zero]

/-- The rung of a share. -/
def srng (a b : Int) : Nat := qrg (pl (irg a.natAbs)) (pl (irg b.natAbs)) (mg (irg a.natAbs)) (mg (irg b.natAbs))
theorem share_nz {a b : Int} (ha : -9223372036854775808 ≤ a ∧ a ≤ 9223372036854775807) (hb : -9223372036854775808 ≤ b ∧ b ≤ 9223372036854775807) (a0 : a ≠ 0) (b0 : b ≠ 0) :
    floatBits .quo .f64 (floatOfInt .f64 a) (floatOfInt .f64 b) = some (Ieee.double.word (decide (a < 0) ^^ decide (b < 0)) (srng a b)) ∧ 0 < srng a b ∧ srng a b < 9218868437227405312 := by
  have ea := ofInt_eq a a0 (by omega)
  have eb := ofInt_eq b b0 (by omega)
  have ba := irg_b (m := a.natAbs) (by omega) (by omega)
  have bb := irg_b (m := b.natAbs) (by omega) (by omega)
  obtain ⟨s1, s2, s3⟩ := word_sg (s := decide (a < 0)) (r := irg a.natAbs) (by omega)
  obtain ⟨t1, t2, t3⟩ := word_sg (s := decide (b < 0)) (r := irg b.natAbs) (by omega)
  have p1 : 1022 ≤ pl (irg a.natAbs) ∧ pl (irg a.natAbs) ≤ 1086 := by unfold pl; omega
  have p2 : 1022 ≤ pl (irg b.natAbs) ∧ pl (irg b.natAbs) ≤ 1086 := by unfold pl; omega
  have hq := div_eq s3 t3 (by rw [s2]; omega) (by rw [t2]; omega) (by rw [s2]; omega) (by rw [t2]; omega) (by rw [s2, t2]; omega) (by rw [s2, t2]; omega)
  rw [s1, s2, t1, t2] at hq
  have hr := qrg_b (p := pl (irg a.natAbs)) (q := pl (irg b.natAbs)) (mg_b (r := irg a.natAbs) (by omega)) (mg_b (r := irg b.natAbs) (by omega)) (by omega) (by omega)
  rw [ea, eb]
  refine ⟨hq, ?_, ?_⟩
  · unfold srng; omega
  · unfold srng; omega
theorem quot_by0 (s t : Bool) (m : Nat) (i j : Int) (d : Nat) (h : m ≠ 0) : (Ieee.Datum.number s m i).quotient d (.number t 0 j) = some (.infinity (s ^^ t)) := by
  unfold Ieee.Datum.quotient
  simp only [if_true, if_neg h]
theorem share_by0 {a : Int} (ha : -9223372036854775808 ≤ a ∧ a ≤ 9223372036854775807) (a0 : a ≠ 0) : floatBits .quo .f64 (floatOfInt .f64 a) (floatOfInt .f64 0) = some (Ieee.double.word (decide (a < 0)) 9218868437227405312) := by
  have ea := ofInt_eq a a0 (by omega)
  have ba := irg_b (m := a.natAbs) (by omega) (by omega)
  obtain ⟨s1, s2, s3⟩ := word_sg (s := decide (a < 0)) (r := irg a.natAbs) (by omega)
  have hm := mg_b (r := irg a.natAbs) (by omega)
  rw [ea, ofInt_zero]
  generalize irg a.natAbs = r at *
  generalize decide (a < 0) = s at *
  generalize hx : Ieee.double.word s r = x at *
  show ((Ieee.double.read x).quotient (Ieee.double.fractionBits + 2) (Ieee.double.read 0)).map Ieee.double.write = _
  rw [read_eq s3, s1, s2, if_pos (by omega), show Ieee.double.read 0 = .number false 0 (-1074) by decide +kernel, quot_by0 _ _ _ _ _ _ (by omega), Bool.xor_false, Option.map_some]
  refine congrArg some ?_
  unfold Ieee.Format.write
  simp only [db_inf]
theorem share_of0 {b : Int} (hb : -9223372036854775808 ≤ b ∧ b ≤ 9223372036854775807) (b0 : b ≠ 0) : floatBits .quo .f64 (floatOfInt .f64 0) (floatOfInt .f64 b) = some (Ieee.double.word (decide (b < 0)) 0) := by
  have eb := ofInt_eq b b0 (by omega)
  have bb := irg_b (m := b.natAbs) (by omega) (by omega)
  obtain ⟨s1, s2, s3⟩ := word_sg (s := decide (b < 0)) (r := irg b.natAbs) (by omega)
  have hm := mg_b (r := irg b.natAbs) (by omega)
  rw [eb, ofInt_zero]
  show ((Ieee.double.read 0).quotient (Ieee.double.fractionBits + 2) (Ieee.double.read (Ieee.double.word (decide (b < 0)) (irg b.natAbs)))).map Ieee.double.write = _
  rw [read_eq s3, s1, s2, if_pos (by omega), show Ieee.double.read 0 = .number false 0 (-1074) by decide +kernel]
  show Option.map Ieee.double.write (if mg (irg b.natAbs) = 0 then _ else _) = _
  rw [if_neg (by omega)]
  simp only [Nat.zero_shiftLeft, Nat.zero_div, Nat.zero_mod, Option.map_some]
  show some (Ieee.double.nearest (false ^^ decide (b < 0)) 0 _) = _
  unfold Ieee.Format.nearest
  rw [if_pos rfl, Bool.false_xor]

theorem key_word {s : Bool} {r : Nat} (h : r ≤ 9218868437227405312) : F64 (Ieee.double.word s r) ∧ key (Ieee.double.word s r) = if s then -(r : Int) - 1 else (r : Int) := by
  obtain ⟨w1, w2, w3⟩ := word_sg (s := s) (r := r) (by omega)
  refine ⟨w3, ?_⟩
  unfold key
  rw [if_neg (by unfold isN; rw [w2, decide_eq_false (by omega)]; decide), w1, w2]

theorem OrderShares_walk (w : World) (a : Int) (ha : -9223372036854775808 ≤ a ∧ a ≤ 9223372036854775807) (b : Int) (hb : -9223372036854775808 ≤ b ∧ b ≤ 9223372036854775807) :
    Calls Try.prog 6 #[.int .i64 a, .int .i64 b] w fun e w' => e = .returned (.bool true) ∧ Gr w w' := by
  by_cases a0 : a = 0
  · subst a0
    by_cases b0 : b = 0
    · subst b0
      exact shares_nan w
    · have hq := share_of0 hb b0
      by_cases hs : b < 0
      · rw [decide_eq_true hs] at hq
        exact shares_zero hb (.inr ⟨hs, rfl, rfl⟩) (fun w => Share_some 0 b _ hq w) (fun w => (show clk (key 9223372036854775808) = 2 by decide +kernel) ▸ Class_ok 9223372036854775808 (F64_const (by decide)) w)
      · rw [decide_eq_false hs] at hq
        exact shares_zero hb (.inl ⟨by omega, rfl, rfl⟩) (fun w => Share_some 0 b _ hq w) (fun w => (show clk (key 0) = 3 by decide +kernel) ▸ Class_ok 0 f_0 w)
  · by_cases b0 : b = 0
    · subst b0
      have hq := share_by0 ha a0
      obtain ⟨f1, k1⟩ := key_word (s := decide (a < 0)) (r := 9218868437227405312) (by omega)
      have hn := neg_word (decide (a < 0)) (r := 9218868437227405312) (by decide)
      have kA := fun w => rAlike_ok (Ieee.double.word (!decide (a < 0)) 9218868437227405312) (Ieee.double.word (!decide (a < 0)) 9218868437227405312) (key_word (by omega)).1 (key_word (by omega)).1 w
      rw [show alk (Ieee.double.word (!decide (a < 0)) 9218868437227405312) (Ieee.double.word (!decide (a < 0)) 9218868437227405312) = true from alk_iff.2 rfl] at kA
      refine shares_run (k := clk (key (Ieee.double.word (decide (a < 0)) 9218868437227405312))) ha hb ?_ hn (fun w => Share_some a 0 _ hq w) (fun hm w => ?_) (fun w => Class_ok _ f1 w) kA
      · rw [k1]
        by_cases hs : a < 0
        · rw [decide_eq_true hs]; exact .inr (.inl ⟨rfl, hs, by decide⟩)
        · rw [decide_eq_false hs]; exact .inl ⟨rfl, by omega, by decide⟩
      · have hq' := share_by0 (a := -a) (by omega) (by omega)
        have e : decide (-a < 0) = !decide (a < 0) := by
          by_cases hs : a < 0
          · rw [decide_eq_true hs, decide_eq_false (by omega)]; rfl
          · rw [decide_eq_false hs, decide_eq_true (by omega)]; rfl
        rw [e] at hq'
        exact Share_some (-a) 0 _ hq' w
    · obtain ⟨hq, r0, r1⟩ := share_nz ha hb a0 b0
      obtain ⟨f1, k1⟩ := key_word (s := decide (a < 0) ^^ decide (b < 0)) (r := srng a b) (by omega)
      have hn := neg_word (decide (a < 0) ^^ decide (b < 0)) (r := srng a b) (by omega)
      have kA := fun w => rAlike_ok (Ieee.double.word (!(decide (a < 0) ^^ decide (b < 0))) (srng a b)) (Ieee.double.word (!(decide (a < 0) ^^ decide (b < 0))) (srng a b)) (key_word (by omega)).1 (key_word (by omega)).1 w
      rw [show alk (Ieee.double.word (!(decide (a < 0) ^^ decide (b < 0))) (srng a b)) (Ieee.double.word (!(decide (a < 0) ^^ decide (b < 0))) (srng a b)) = true from alk_iff.2 rfl] at kA
      have kT : a ≠ -9223372036854775808 → ∀ w, Calls Try.prog 18 #[.int .i64 (-a), .int .i64 b] w fun e w' => e = .returned (.float .f64 (Ieee.double.word (!(decide (a < 0) ^^ decide (b < 0))) (srng a b))) ∧ w' = w := by
        intro hm w
        obtain ⟨hq', _, _⟩ := share_nz (a := -a) (b := b) (by omega) hb (by omega) b0
        have e : (decide (-a < 0) ^^ decide (b < 0)) = !(decide (a < 0) ^^ decide (b < 0)) := by
          by_cases hs : a < 0
          · rw [decide_eq_true hs, decide_eq_false (by omega)]; cases decide (b < 0) <;> rfl
          · rw [decide_eq_false hs, decide_eq_true (by omega)]; cases decide (b < 0) <;> rfl
        have e2 : srng (-a) b = srng a b := by unfold srng; rw [Int.natAbs_neg]
        rw [e, e2] at hq'
        exact Share_some (-a) b _ hq' w
      by_cases hp : 0 < a ∧ 0 < b ∧ a ≤ b
      · obtain ⟨p1, p2, p3⟩ := hp
        have ba := irg_b (m := a.natAbs) (by omega) (by omega)
        have bb := irg_b (m := b.natAbs) (by omega) (by omega)
        have hle := qrg_le_one (r := irg a.natAbs) (q := irg b.natAbs) (by omega) (by omega) (irg_mono (by omega) (by omega)) (by unfold pl; omega)
        have hle' : srng a b ≤ 4607182418800017408 := hle
        rw [decide_eq_false (show ¬ a < 0 by omega), decide_eq_false (show ¬ b < 0 by omega)] at *
        simp only [Bool.xor_false, Bool.false_eq_true, if_false] at k1
        refine shares_part ⟨p1, ha.2⟩ ⟨p2, hb.2⟩ p3 ⟨?_, ?_, ?_⟩ hn (fun w => Share_some a b _ hq w) (kT (by omega)) (fun w => ?_) kA
        · exact b_gt0 f1 true (by rw [show (false ^^ false) = false from rfl] at *; rw [k1]; simp; omega)
        · exact b_eq0 f1 false (by rw [show (false ^^ false) = false from rfl] at *; rw [k1]; simp; omega)
        · refine ⟨decide (srng a b < 4607182418800017408), b_lt f1 (F64_const (by decide)) _ ?_, b_eq f1 (F64_const (by decide)) _ ?_⟩
          · rw [show (false ^^ false) = false from rfl] at *
            rw [k1, k_p1, decide_eq_true_eq]
            unfold zk
            rw [if_neg (by omega), if_neg (by omega)]
            omega
          · rw [show (false ^^ false) = false from rfl] at *
            rw [k1, k_p1, Bool.not_eq_true', decide_eq_false_iff_not]
            unfold zk
            rw [if_neg (by omega), if_neg (by omega)]
            omega
        · have := Class_ok _ f1 w
          rw [show (false ^^ false) = false from rfl] at *
          rw [k1, clk4 (by omega) (by omega)] at this
          exact this
      · refine shares_run (k := clk (key (Ieee.double.word (decide (a < 0) ^^ decide (b < 0)) (srng a b)))) ha hb ?_ hn (fun w => Share_some a b _ hq w) kT (fun w => Class_ok _ f1 w) kA
        rw [k1]
        unfold Shc
        by_cases hs : a < 0
        · by_cases ht : b < 0
          · rw [decide_eq_true hs, decide_eq_true ht, show (true ^^ true) = false from rfl, if_neg (by decide), clk4 (by omega) (by omega)]; omega
          · rw [decide_eq_true hs, decide_eq_false ht, show (true ^^ false) = true from rfl, if_pos rfl, clk1 (by omega) (by omega)]; omega
        · by_cases ht : b < 0
          · rw [decide_eq_false hs, decide_eq_true ht, show (false ^^ true) = true from rfl, if_pos rfl, clk1 (by omega) (by omega)]; omega
          · rw [decide_eq_false hs, decide_eq_false ht, show (false ^^ false) = false from rfl, if_neg (by decide), clk4 (by omega) (by omega)]; omega

set_option maxRecDepth 100000 in
theorem OrderShares_lifted (os : Os) (started : os.Started) (H : Type) (enc : TypeId × Value → H) :
    ReturnsInHanded {} Try.checked os 6 .any (Rows.orderSharesSpec.pre6 enc Try.prog Try.f6 Rows.orderSharesRow.domain false) (Rows.orderSharesSpec.post enc Try.prog Try.f6 false true false false) := by
  refine returnsInHanded_of_change (C := Try.checked) own started (by kernel_rfl) Try.func6
    (ChangeSpec.witness6 (enc := enc) (C := Try.checked) false ⟨#[], #[.int .i64 0, .int .i64 0], []⟩ 8 (by kernel_rfl) (by kernel_rfl) (by kernel_rfl) (by kernel_rfl)) ?_
  intro W base args ds gs before hval0 hW hcnd _
  have hval : ∀ (j : Nat) t v, Try.f6.params[j]? = some t → args[j]? = some v → Value.okWide Try.prog W .any base t v := hval0
  have hW' := hW
  obtain ⟨p, q, hA0, hV, rfl, hfz, hnd⟩ := hW
  have hA : DataW.TrodAll enc Try.prog W 0 (fun _ => true) true Try.f6.params.toList args.toList ds p := hA0
  rw [Try.params6] at hA hval
  have hK := hA
  obtain ⟨v0, vs0, d0, ds0, p0, q0, hargs, rfl, hp, h0, r0⟩ := trodAll_cons hA
  obtain ⟨v1, vs1, d1, ds1, p1, q1, rfl, rfl, rfl, h1, r1⟩ := trodAll_cons r0
  obtain ⟨rfl, rfl, rfl⟩ := trodAll_nil r1
  obtain rfl : args = #[v0, v1] := by cases args; simp_all
  obtain ⟨rfl, rfl⟩ := trodVars_none hV
  obtain ⟨a0, rfl, rfl, rfl, w0⟩ := open_int Try.underlying3 (hval 0 3 v0 rfl rfl) h0
  obtain ⟨a1, rfl, rfl, rfl, w1⟩ := open_int Try.underlying3 (hval 1 3 v1 rfl rfl) h1
  clear hA0 hval0
  refine (OrderShares_walk W a0 (wfb w0) a1 (wfb w1)).mono fun e W' ⟨he, hg⟩ => ?_
  subst he
  exact ⟨_, rfl, post_below (pa := p) (pv := []) hW' (fun _ _ _ => (trodAll_cons_mk (shut_bool Try.underlying4 _) trodAll_mk0))
    (fun sp hs => trodAll_stays laidOut hg sp (by kernel_rfl) hK (fun x hx => hW'.lt x (List.mem_append_left _ hx)) (fun x hx => hs x (List.mem_append_left _ hx))) (fun _ _ => rfl) rfl
    hg (ok_one (by kernel_rfl) rfl (okWide_bool_mk Try.underlying4 _))⟩

theorem OrderShares_over : Rows.orderSharesRow.holds Try.pinned (OpenSpec.ofChange Rows.orderSharesSpec) :=
  OpenClaim.holds_of_wide 6 Try.f6 rfl rfl rfl rfl rfl rfl rfl ⟨rfl, rfl, rfl, rfl, rfl⟩ rfl rfl rfl rfl rfl (by kernel_rfl) Try.func6 (by kernel_rfl)
    (of_decide_eq_true (by kernel_rfl)) (by unfold Func.isWrapper; first | (rw [if_pos (by decide +kernel)]; kernel_rfl) | (rw [if_neg (by decide +kernel)]; exact ⟨rfl, rfl⟩))
    (fun os started H enc _ => OrderShares_lifted os started H enc)

/-- The statement. -/
theorem OrderShares_holds : Rows.OrderSharesSaid :=
  OrderShares_over
#print axioms OrderShares_holds
end Go.Proofs.Ythldaebinchpdaa
