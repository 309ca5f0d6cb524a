/-
  deadboltref05: Class, Ahead, Alike.
-/
import Derived.Test.YthldaebinchpdaaOrder
import Derived.Test.YthldaebinchpdaaFloatDiv
namespace Go.Proofs.Ythldaebinchpdaa
open Go.ChangeShapes Go.WideShapes Go.ChangeAt Go.RowKit
set_option linter.unusedVariables false

/-- The bits of what is no number, as the world's tape has them. -/
def nanr (w : World) (x y : Nat) : Nat := (Question.nanBits .f64 x y).cut (w.tape w.drawn (.nanBits .f64 x y))
theorem nanr_is (w : World) (x y : Nat) : F64 (nanr w x y) ∧ key (nanr w x y) = 9218868437227405313 := by
  unfold nanr
  generalize w.tape w.drawn (.nanBits .f64 x y) = t
  have e : (Question.nanBits .f64 x y).cut t = (t % 2) * 9223372036854775808 + 9218868437227405312 + 1 + (t / 2) % 4503599627370495 := rfl
  rw [e]
  have h1 := Nat.mod_lt t (show 2 > 0 by decide)
  have h2 := Nat.mod_lt (t / 2) (show 4503599627370495 > 0 by decide)
  generalize t % 2 = a at *
  generalize t / 2 % 4503599627370495 = b at *
  refine ⟨by unfold F64; omega, key_nan ?_⟩
  unfold isN rg
  exact decide_eq_true (by omega)
theorem run_float_none (w : World) (op : BinOp) (hop : op = .add ∨ op = .quo) (t : TypeId) (x y : Nat) (h : floatBits op .f64 x y = none) : (binOp op t (.float .f64 x) (.float .f64 y)).run Try.prog w = .ok (.float .f64 (nanr w x y)) w.drew := by
  unfold floatBits at h
  rcases hop with rfl | rfl <;> simp only at h <;> simp [binOp, Op.floatArith, h, Question.forced] <;> rfl

theorem key_parts {x : Nat} (h : isN x = false) : rg x ≤ 9218868437227405312 ∧ ((sg x = true ∧ key x = -(rg x : Int) - 1) ∨ (sg x = false ∧ key x = (rg x : Int))) := by
  refine ⟨by unfold isN at h; have := of_decide_eq_false h; omega, ?_⟩
  unfold key
  rw [if_neg (by rw [h]; decide)]
  cases sg x
  · exact .inr ⟨rfl, rfl⟩
  · exact .inl ⟨rfl, rfl⟩
theorem notN {x : Nat} (h : key x ≤ 9218868437227405312) : isN x = false := by
  cases hn : isN x
  · rfl
  · have := isN_iff.1 hn; omega
/-- A float's bits, by sign and rung. -/
theorem f_eq {x : Nat} (hx : F64 x) : x = (if sg x then 9223372036854775808 else 0) + rg x := by
  unfold F64 at hx
  unfold sg rg
  by_cases h : 9223372036854775808 ≤ x
  · rw [decide_eq_true h, if_pos rfl]; omega
  · rw [decide_eq_false h, if_neg (by decide)]; omega
theorem key_inj {x y : Nat} (hx : F64 x) (hy : F64 y) (h1 : key x ≤ 9218868437227405312) (h : key x = key y) : x = y := by
  obtain ⟨_, px⟩ := key_parts (notN h1)
  obtain ⟨_, py⟩ := key_parts (notN (h ▸ h1 : key y ≤ 9218868437227405312))
  have ex := f_eq hx
  have ey := f_eq hy
  rcases px with ⟨p1, p2⟩ | ⟨p1, p2⟩ <;> rcases py with ⟨q1, q2⟩ | ⟨q1, q2⟩ <;> rw [p1] at ex <;> rw [q1] at ey <;> simp only [if_true, if_false, Bool.false_eq_true] at ex ey <;> omega

theorem half_ex {x : Nat} (hx : F64 x) (hn : key x ≤ 9218868437227405312) : ∃ h B, floatBits .quo .f64 x 4611686018427387904 = some h ∧ (ord h x == some .eq) = B ∧
    (key x = -9218868437227405313 ∨ key x = 9218868437227405312 → B = true) ∧ ((-9218868437227405313 < key x ∧ key x < -4607182418800017409) ∨ (4607182418800017408 < key x ∧ key x < 9218868437227405312) → B = false) := by
  by_cases c1 : key x = 9218868437227405312
  · obtain rfl := key_inj hx (y := 9218868437227405312) (F64_const (by decide)) hn (by rw [c1]; decide +kernel)
    exact ⟨9218868437227405312, true, by decide +kernel, by decide +kernel, fun _ => rfl, fun h => by omega⟩
  by_cases c2 : key x = -9218868437227405313
  · obtain rfl := key_inj hx (y := 18442240474082181120) (F64_const (by decide)) hn (by rw [c2]; decide +kernel)
    exact ⟨18442240474082181120, true, by decide +kernel, by decide +kernel, fun _ => rfl, fun h => by omega⟩
  obtain ⟨hr, hp⟩ := key_parts (notN hn)
  have hr' : rg x < 9218868437227405312 := by omega
  by_cases c3 : 4607182418800017408 < rg x
  · have e2 : rg 4611686018427387904 = 4611686018427387904 := by decide +kernel
    have e3 : sg 4611686018427387904 = false := by decide +kernel
    have e4 : pl 4611686018427387904 = 1023 := by decide +kernel
    have e5 : mg 4611686018427387904 = 4503599627370496 := by decide +kernel
    have hq := div_eq hx (y := 4611686018427387904) (F64_const (by decide)) (by omega) (by rw [e2]; decide) hr' (by rw [e2]; decide) (by rw [e2, e4]; unfold pl; omega) (by rw [e2, e4]; unfold pl; omega)
    rw [e2, e3, e4, e5, qrg_half (by omega), Bool.xor_false] at hq
    obtain ⟨w1, w2, w3⟩ := word_sg (s := sg x) (r := rg x - 4503599627370496) (by omega)
    refine ⟨_, false, hq, ?_, fun h => by omega, fun _ => rfl⟩
    refine b_eq w3 hx false ?_
    have hN : isN (Ieee.double.word (sg x) (rg x - 4503599627370496)) = false := by unfold isN; rw [w2]; exact decide_eq_false (by omega)
    obtain ⟨_, hp'⟩ := key_parts hN
    rw [w1, w2] at hp'
    refine ⟨fun h => absurd h (by decide), fun h => ?_⟩
    have h3 := h.2.2
    unfold zk at h3
    exfalso
    rcases hp with ⟨p1, p2⟩ | ⟨p1, p2⟩ <;> rcases hp' with ⟨q1, q2⟩ | ⟨q1, q2⟩ <;> (repeat' split at h3) <;> first | omega | (rw [p1] at q1; cases q1)
  · have hex : ∃ h, floatBits .quo .f64 x 4611686018427387904 = some h := by
      show ∃ h, ((Ieee.double.read x).quotient (Ieee.double.fractionBits + 2) (Ieee.double.read 4611686018427387904)).map Ieee.double.write = some h
      rw [read_eq hx, if_pos hr', show Ieee.double.read 4611686018427387904 = .number false 4503599627370496 (-51) by decide +kernel]
      exact ⟨_, rfl⟩
    obtain ⟨h, hh⟩ := hex
    exact ⟨h, _, hh, rfl, fun h => by omega, fun h => by omega⟩

theorem k_m1 : key 13830554455654793216 = -4607182418800017409 := by decide +kernel
theorem k_p1 : key 4607182418800017408 = 4607182418800017408 := by decide +kernel
theorem b_m1 {x : Nat} (hx : F64 x) (B : Bool) (h : B = true ↔ key x < -4607182418800017409) : (ord x 13830554455654793216 == some .lt) = B := b_lt hx (F64_const (by decide)) B (by rw [h, k_m1]; unfold zk; split <;> omega)
theorem b_p1 {x : Nat} (hx : F64 x) (B : Bool) (h : B = true ↔ 4607182418800017408 < key x ∧ key x ≤ 9218868437227405312) : (ord x 4607182418800017408 == some .gt) = B := b_gt hx (F64_const (by decide)) B (by rw [h, k_p1]; unfold zk; split <;> omega)
theorem b_eq0 {x : Nat} (hx : F64 x) (B : Bool) (h : B = true ↔ key x = -1 ∨ key x = 0) : (ord x 0 == some .eq) = B := by
  refine b_eq hx f_0 B ?_
  rw [h, k_0]
  have := key_b x
  unfold zk
  by_cases h1 : key x < 0
  · rw [if_pos h1, if_neg (by omega)]; omega
  · rw [if_neg h1, if_neg (by omega)]; omega

set_option maxHeartbeats 1000000 in
theorem rClass_ok (x : Nat) (hx : F64 x) (w : World) : Calls Try.prog 11 #[.float .f64 x] w fun e w' => e = .returned (.int .i64 (clk (key x))) ∧ w' = w := by
  have hb := key_b x
  by_cases c6 : 9218868437227405312 < key x
  · have o1 := b_nself hx true (by simp; omega)
    rw [clk6 c6]
    clear hb hx c6
    go_enter Try.func11, Try.ntmps11
    go_wp2_with fail
    go_ret
    exact ⟨rfl, rfl⟩
  have o1 := b_nself hx false (by simp; omega)
  by_cases c2 : key x = -1
  · obtain rfl := key_bits hx (by omega) c2
    have q := fun w => run_float_arith (P := Try.prog) w .quo 22 .f64 4607182418800017408 9223372036854775808 _ q_n0
    have o5 := b_eq0 hx true (by simp; omega)
    have o6 : (ord 18442240474082181120 0 == some .lt) = true := by decide +kernel
    rw [c2, show clk (-1) = 2 by decide]
    clear hb hx c6 c2
    go_enter Try.func11, Try.ntmps11
    go_wp2_with fail
    go_ret
    exact ⟨rfl, rfl⟩
  by_cases c3 : key x = 0
  · obtain rfl := key_zero hx c3
    have q := fun w => run_float_arith (P := Try.prog) w .quo 22 .f64 4607182418800017408 0 _ q_p0
    have o5 := b_eq0 hx true (by simp; omega)
    have o6 : (ord 9218868437227405312 0 == some .lt) = false := by decide +kernel
    rw [c3, show clk 0 = 3 by decide]
    clear hb hx c6 c2 c3
    go_enter Try.func11, Try.ntmps11
    go_wp2_with fail
    go_ret
    exact ⟨rfl, rfl⟩
  have o2 := b_eq0 hx false (by simp; omega)
  obtain ⟨h, B, hq, o3, hB1, hB2⟩ := half_ex hx (by omega)
  have q := fun w => run_float_arith (P := Try.prog) w .quo 22 .f64 _ _ _ hq
  by_cases c1 : key x < 0
  · have o4 := b_lt0 hx true (by simp; omega)
    by_cases d1 : key x < -4607182418800017409
    · have o5 := b_m1 hx true (by simp; omega)
      by_cases d0 : key x = -9218868437227405313
      · obtain rfl := hB1 (.inl d0)
        rw [d0, show clk (-9218868437227405313) = 0 by decide]
        clear hb hx c6 c2 c3 hq hB1 hB2 c1 d1 d0
        go_enter Try.func11, Try.ntmps11
        go_wp2_with fail
        go_ret
        exact ⟨rfl, rfl⟩
      · obtain rfl := hB2 (.inl ⟨by omega, d1⟩)
        rw [clk1 (by omega) (by omega)]
        clear hb hx c6 c2 c3 hq hB1 hB2 c1 d1 d0
        go_enter Try.func11, Try.ntmps11
        go_wp2_with fail
        go_ret
        exact ⟨rfl, rfl⟩
    · have o5 := b_m1 hx false (by simp; omega)
      rw [clk1 (by omega) (by omega)]
      clear hb hx c6 c2 c3 hq hB1 hB2 c1 d1
      cases B
      all_goals (
        go_enter Try.func11, Try.ntmps11
        go_wp2_with fail
        go_ret
        exact ⟨rfl, rfl⟩)
  · have o4 := b_lt0 hx false (by simp; omega)
    by_cases d1 : 4607182418800017408 < key x
    · have o5 := b_p1 hx true (by simp; omega)
      by_cases d0 : key x = 9218868437227405312
      · obtain rfl := hB1 (.inr d0)
        rw [d0, show clk 9218868437227405312 = 5 by decide]
        clear hb hx c6 c2 c3 hq hB1 hB2 c1 d1 d0
        go_enter Try.func11, Try.ntmps11
        go_wp2_with fail
        go_ret
        exact ⟨rfl, rfl⟩
      · obtain rfl := hB2 (.inr ⟨d1, by omega⟩)
        rw [clk4 (by omega) (by omega)]
        clear hb hx c6 c2 c3 hq hB1 hB2 c1 d1 d0
        go_enter Try.func11, Try.ntmps11
        go_wp2_with fail
        go_ret
        exact ⟨rfl, rfl⟩
    · have o5 := b_p1 hx false (by simp; omega)
      rw [clk4 (by omega) (by omega)]
      clear hb hx c6 c2 c3 hq hB1 hB2 c1 d1
      cases B
      all_goals (
        go_enter Try.func11, Try.ntmps11
        go_wp2_with fail
        go_ret
        exact ⟨rfl, rfl⟩)

set_option maxHeartbeats 1000000 in
theorem rAhead_ok (a b : Nat) (ha : F64 a) (hb : F64 b) (w : World) : Calls Try.prog 13 #[.float .f64 a, .float .f64 b] w fun e w' => e = .returned (.bool (ahd a b)) ∧ w' = w := by
  have c1 := fun w => Lib.hid (rClass_ok a ha w)
  have c2 := fun w => Lib.hid (rClass_ok b hb w)
  by_cases h : clk (key a) = clk (key b)
  · have hx : (clk (key a) = 1 ∧ (ord a b == some .lt) = ahd a b) ∨ (clk (key a) = 4 ∧ (ord a b == some .lt) = ahd a b) ∨ (clk (key a) ≠ 1 ∧ clk (key a) ≠ 4 ∧ ahd a b = false) := by
      have o : (ord a b == some .lt) = ahd a b := b_lt ha hb _ (by
        rw [ahd_iff]
        have k1 := key_b a
        have k2 := key_b b
        generalize key a = x at *
        generalize key b = y at *
        unfold clk at h
        unfold zk
        repeat' split at h
        all_goals first | omega | (split <;> split <;> omega))
      by_cases e1 : clk (key a) = 1
      · exact .inl ⟨e1, o⟩
      by_cases e4 : clk (key a) = 4
      · exact .inr (.inl ⟨e4, o⟩)
      refine .inr (.inr ⟨e1, e4, ahd_not.2 ?_⟩)
      have k1 := key_b a
      have k2 := key_b b
      generalize key a = x at *
      generalize key b = y at *
      unfold clk at h e1 e4
      repeat' split at h
      all_goals simp_all
      all_goals omega
    rw [← h] at c2
    clear h
    generalize clk (key a) = x at *
    generalize ahd a b = B at *
    rcases hx with ⟨rfl, o⟩ | ⟨rfl, o⟩ | ⟨e1, e4, rfl⟩
    · have O := Lib.hid o
      clear o
      go_enter Try.func13, Try.ntmps13
      go_wp2_with fail
      refine (c1 _).out.mono ?_
      rintro e w1 ⟨rfl, rfl⟩
      go_wp2_with fail
      refine (c2 _).out.mono ?_
      rintro e w1 ⟨rfl, rfl⟩
      go_wp2_with fail
      go_ret
      exact ⟨congrArg _ (congrArg _ O.out), rfl⟩
    · have O := Lib.hid o
      clear o
      go_enter Try.func13, Try.ntmps13
      go_wp2_with fail
      refine (c1 _).out.mono ?_
      rintro e w1 ⟨rfl, rfl⟩
      go_wp2_with fail
      refine (c2 _).out.mono ?_
      rintro e w1 ⟨rfl, rfl⟩
      go_wp2_with fail
      go_ret
      exact ⟨congrArg _ (congrArg _ O.out), rfl⟩
    · go_enter Try.func13, Try.ntmps13
      go_wp2_with fail
      refine (c1 _).out.mono ?_
      rintro e w1 ⟨rfl, rfl⟩
      go_wp2_with fail
      refine (c2 _).out.mono ?_
      rintro e w1 ⟨rfl, rfl⟩
      go_wp2_with fail
      go_ret
      exact ⟨rfl, rfl⟩
  · have o : ahd a b = decide (clk (key a) < clk (key b)) := by
      unfold ahd
      by_cases hl : key a < key b
      · have := clk_mono (Int.le_of_lt hl)
        rw [decide_eq_true hl, decide_eq_true (by omega)]
      · have := clk_mono (show key b ≤ key a by omega)
        rw [decide_eq_false hl, decide_eq_false (by omega)]
    rw [o]
    clear o
    generalize clk (key a) = x at *
    generalize clk (key b) = y at *
    go_enter Try.func13, Try.ntmps13
    go_wp2_with fail
    refine (c1 _).out.mono ?_
    rintro e w1 ⟨rfl, rfl⟩
    go_wp2_with fail
    refine (c2 _).out.mono ?_
    rintro e w1 ⟨rfl, rfl⟩
    go_wp2_with fail
    go_ret
    exact ⟨rfl, rfl⟩

/-- Whether two are alike. -/
def alk (a b : Nat) : Bool := decide (key a = key b)
theorem alk_iff {a b : Nat} : alk a b = true ↔ key a = key b := by unfold alk; exact decide_eq_true_iff
set_option maxHeartbeats 1000000 in
theorem rAlike_ok (a b : Nat) (ha : F64 a) (hb : F64 b) (w : World) : Calls Try.prog 17 #[.float .f64 a, .float .f64 b] w fun e w' => e = .returned (.bool (alk a b)) ∧ w' = w := by
  have c1 := fun w => Lib.hid (rAhead_ok a b ha hb w)
  have c2 := fun w => Lib.hid (rAhead_ok b a hb ha w)
  have h : (ahd a b = true ∧ alk a b = false) ∨ (ahd a b = false ∧ ahd b a = true ∧ alk a b = false) ∨ (ahd a b = false ∧ ahd b a = false ∧ alk a b = true) := by
    unfold alk
    rcases Int.lt_trichotomy (key a) (key b) with h | h | h
    · exact .inl ⟨ahd_iff.2 h, decide_eq_false (by omega)⟩
    · exact .inr (.inr ⟨ahd_not.2 (by omega), ahd_not.2 (by omega), decide_eq_true h⟩)
    · exact .inr (.inl ⟨ahd_not.2 (by omega), ahd_iff.2 h, decide_eq_false (by omega)⟩)
  generalize ahd a b = x at *
  generalize ahd b a = y at *
  generalize alk a b = z at *
  rcases h with ⟨rfl, rfl⟩ | ⟨rfl, rfl, rfl⟩ | ⟨rfl, rfl, rfl⟩
  · go_enter Try.func17, Try.ntmps17
    go_wp2_with fail
    refine (c1 _).out.mono ?_
    rintro e w1 ⟨rfl, rfl⟩
    go_wp2_with fail
    go_ret
    exact ⟨rfl, rfl⟩
  all_goals (
    go_enter Try.func17, Try.ntmps17
    go_wp2_with fail
    refine (c1 _).out.mono ?_
    rintro e w1 ⟨rfl, rfl⟩
    go_wp2_with fail
    refine (c2 _).out.mono ?_
    rintro e w1 ⟨rfl, rfl⟩
    go_wp2_with fail
    go_ret
    exact ⟨rfl, rfl⟩)
theorem rAlike_t {a b : Nat} (ha : F64 a) (hb : F64 b) (h : key a = key b) (w : World) : Calls Try.prog 17 #[.float .f64 a, .float .f64 b] w fun e w' => e = .returned (.bool true) ∧ w' = w := by
  have := rAlike_ok a b ha hb w
  rwa [alk_iff.2 h] at this
end Go.Proofs.Ythldaebinchpdaa
