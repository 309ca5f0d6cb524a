/-
  Package order: Class, Ahead, Share; a float's place in the order.
-/
import Derived.Test.YthldaebinchpdaaBase
import Derived.Test.YthldaebinchpdaaFloat
import Derived.Deep.QuietTactic
import Derived.BigQuiet
import Derived.Outline
import Derived.RegionTactic
namespace Go.Proofs.Ythldaebinchpdaa
open Go.ChangeShapes Go.WideShapes Go.ChangeAt Go.RowKit
set_option linter.unusedVariables false

/-- Where a float stands in the order. -/
def key (x : Nat) : Int := if isN x then 9218868437227405313 else if sg x then -(rg x : Int) - 1 else (rg x : Int)
/-- The class of what stands there. -/
def clk (k : Int) : Int := if k < -9218868437227405312 then 0 else if k < -1 then 1 else if k = -1 then 2 else if k = 0 then 3 else if k < 9218868437227405312 then 4 else if k = 9218868437227405312 then 5 else 6
theorem clk_mono {a b : Int} (h : a ≤ b) : clk a ≤ clk b := by
  unfold clk
  repeat' split
  all_goals omega
theorem clk_b (a : Int) : 0 ≤ clk a ∧ clk a ≤ 6 := by
  unfold clk
  repeat' split
  all_goals omega

abbrev ord (x y : Nat) : Option Ordering := FloatKind.f64.format.order x y
theorem rg_lt (x : Nat) : rg x < 9223372036854775808 := Nat.mod_lt _ (by decide)
/-- The key and the rung with its sign. -/
theorem key_nan {x : Nat} (h : isN x = true) : key x = 9218868437227405313 := by unfold key; rw [if_pos h]
theorem key_num {x : Nat} (h : isN x = false) : -9218868437227405313 ≤ key x ∧ key x ≤ 9218868437227405312 ∧ srg x = if key x < 0 then key x + 1 else key x := by
  have hr : rg x ≤ 9218868437227405312 := by unfold isN at h; have := of_decide_eq_false h; omega
  unfold key srg
  rw [if_neg (by rw [h]; decide)]
  generalize rg x = r at *
  cases sg x <;> simp only [if_true, if_false, Bool.false_eq_true]
  · refine ⟨by omega, by omega, ?_⟩
    rw [if_neg (by omega)]
  · refine ⟨by omega, by omega, ?_⟩
    rw [if_pos (by omega)]
    omega
theorem isN_iff {x : Nat} : isN x = true ↔ 9218868437227405312 < key x := by
  refine ⟨fun h => by rw [key_nan h]; decide, fun h => ?_⟩
  cases hn : isN x
  · have := key_num hn; omega
  · rfl
theorem ord_nan_l {x y : Nat} (hx : F64 x) (hy : F64 y) (h : 9218868437227405312 < key x) : ord x y = none := by
  show Ieee.double.order x y = _
  rw [order_eq hx hy, isN_iff.2 h]; rfl
theorem ord_nan_r {x y : Nat} (hx : F64 x) (hy : F64 y) (h : 9218868437227405312 < key y) : ord x y = none := by
  show Ieee.double.order x y = _
  rw [order_eq hx hy, isN_iff.2 h, Bool.or_true]; rfl
/-- A key, the two zeros as one. -/
def zk (k : Int) : Int := if k < 0 then k + 1 else k
theorem ord_num {x y : Nat} (hx : F64 x) (hy : F64 y) (h1 : key x ≤ 9218868437227405312) (h2 : key y ≤ 9218868437227405312) : ord x y = some (compare (zk (key x)) (zk (key y))) := by
  have e1 : isN x = false := by cases h : isN x; rfl; have := isN_iff.1 h; omega
  have e2 : isN y = false := by cases h : isN y; rfl; have := isN_iff.1 h; omega
  show Ieee.double.order x y = _
  rw [order_eq hx hy, e1, e2, (key_num e1).2.2, (key_num e2).2.2]
  rfl
theorem ord_lt {x y : Nat} (hx : F64 x) (hy : F64 y) (h2 : key y ≤ 9218868437227405312) (h : zk (key x) < zk (key y)) : ord x y = some .lt := by
  rw [ord_num hx hy (by unfold zk at h; split at h <;> split at h <;> omega) h2, Int.compare_eq_lt.2 h]
theorem ord_gt {x y : Nat} (hx : F64 x) (hy : F64 y) (h2 : key x ≤ 9218868437227405312) (h : zk (key y) < zk (key x)) : ord x y = some .gt := by
  rw [ord_num hx hy h2 (by unfold zk at h; split at h <;> split at h <;> omega), Int.compare_eq_gt.2 h]
theorem ord_eq {x y : Nat} (hx : F64 x) (hy : F64 y) (h2 : key x ≤ 9218868437227405312) (h3 : key y ≤ 9218868437227405312) (h : zk (key y) = zk (key x)) : ord x y = some .eq := by
  rw [ord_num hx hy h2 h3, Int.compare_eq_eq.2 h.symm]

theorem F64_const {n : Nat} (h : decide (n < 18446744073709551616) = true) : F64 n := (of_decide_eq_true h : n < 18446744073709551616)
theorem key_bits {x : Nat} (hx : F64 x) : key x < 0 → key x = -1 → x = 9223372036854775808 := by
  intro _ h
  unfold key at h
  unfold F64 at hx
  split at h
  · omega
  · split at h
    · rename_i hs
      unfold sg at hs
      have := of_decide_eq_true hs
      unfold rg at h
      omega
    · omega
theorem key_zero {x : Nat} (hx : F64 x) (h : key x = 0) : x = 0 := by
  unfold key at h
  unfold F64 at hx
  split at h
  · omega
  · split at h
    · omega
    · rename_i hs
      unfold sg at hs
      unfold rg at h
      have hs' : ¬ (9223372036854775808 ≤ x) := by simpa using hs
      omega

theorem clk0 {k : Int} (h : k < -9218868437227405312) : clk k = 0 := by unfold clk; rw [if_pos h]
theorem clk1 {k : Int} (h1 : ¬ k < -9218868437227405312) (h2 : k < -1) : clk k = 1 := by unfold clk; rw [if_neg h1, if_pos h2]
theorem clk4 {k : Int} (h1 : 0 < k) (h2 : k < 9218868437227405312) : clk k = 4 := by
  unfold clk
  rw [if_neg (by omega), if_neg (by omega), if_neg (by omega), if_neg (by omega), if_pos h2]
theorem clk6 {k : Int} (h : 9218868437227405312 < k) : clk k = 6 := by
  unfold clk
  rw [if_neg (by omega), if_neg (by omega), if_neg (by omega), if_neg (by omega), if_neg (by omega), if_neg (by omega)]
theorem key_b (x : Nat) : -9218868437227405313 ≤ key x ∧ key x ≤ 9218868437227405313 := by
  cases h : isN x
  · have := key_num h; omega
  · rw [key_nan h]; decide
/-- The six comparisons, in the walk's words. -/
theorem b_lt {x y : Nat} (hx : F64 x) (hy : F64 y) (B : Bool) (h : B = true ↔ key y ≤ 9218868437227405312 ∧ zk (key x) < zk (key y)) : (ord x y == some .lt) = B := by
  cases B
  · have h' : ¬ (key y ≤ 9218868437227405312 ∧ zk (key x) < zk (key y)) := fun c => by cases h.2 c
    by_cases n1 : 9218868437227405312 < key x
    · rw [ord_nan_l hx hy n1]; rfl
    by_cases n2 : 9218868437227405312 < key y
    · rw [ord_nan_r hx hy n2]; rfl
    rw [ord_num hx hy (by omega) (by omega)]
    cases hh : compare (zk (key x)) (zk (key y))
    · exact absurd ⟨by omega, Int.compare_eq_lt.1 hh⟩ h'
    · rfl
    · rfl
  · have h' := h.1 rfl
    rw [ord_lt hx hy h'.1 h'.2]
    rfl
theorem b_gt {x y : Nat} (hx : F64 x) (hy : F64 y) (B : Bool) (h : B = true ↔ key x ≤ 9218868437227405312 ∧ zk (key y) < zk (key x)) : (ord x y == some .gt) = B := by
  cases B
  · have h' : ¬ (key x ≤ 9218868437227405312 ∧ zk (key y) < zk (key x)) := fun c => by cases h.2 c
    by_cases n1 : 9218868437227405312 < key x
    · rw [ord_nan_l hx hy n1]; rfl
    by_cases n2 : 9218868437227405312 < key y
    · rw [ord_nan_r hx hy n2]; rfl
    rw [ord_num hx hy (by omega) (by omega)]
    cases hh : compare (zk (key x)) (zk (key y))
    · rfl
    · rfl
    · exact absurd ⟨by omega, Int.compare_eq_gt.1 hh⟩ h'
  · have h' := h.1 rfl
    rw [ord_gt hx hy h'.1 h'.2]
    rfl
theorem b_eq {x y : Nat} (hx : F64 x) (hy : F64 y) (B : Bool) (h : B = true ↔ key x ≤ 9218868437227405312 ∧ key y ≤ 9218868437227405312 ∧ zk (key y) = zk (key x)) : (ord x y == some .eq) = B := by
  cases B
  · have h' : ¬ (key x ≤ 9218868437227405312 ∧ key y ≤ 9218868437227405312 ∧ zk (key y) = zk (key x)) := fun c => by cases h.2 c
    by_cases n1 : 9218868437227405312 < key x
    · rw [ord_nan_l hx hy n1]; rfl
    by_cases n2 : 9218868437227405312 < key y
    · rw [ord_nan_r hx hy n2]; rfl
    rw [ord_num hx hy (by omega) (by omega)]
    cases hh : compare (zk (key x)) (zk (key y))
    · rfl
    · exact absurd ⟨by omega, by omega, (Int.compare_eq_eq.1 hh).symm⟩ h'
    · rfl
  · have h' := h.1 rfl
    rw [ord_eq hx hy h'.1 h'.2.1 h'.2.2]
    rfl
theorem b_self {x : Nat} (hx : F64 x) (B : Bool) (h : B = true ↔ key x ≤ 9218868437227405312) : (ord x x == some .eq) = B := b_eq hx hx B (by rw [h]; exact ⟨fun h => ⟨h, h, rfl⟩, fun h => h.1⟩)
theorem b_nself {x : Nat} (hx : F64 x) (B : Bool) (h : B = true ↔ 9218868437227405312 < key x) : (ord x x != some .eq) = B := by
  rw [bne, b_self hx (!B) (by cases B <;> simp at h ⊢ <;> omega), Bool.not_not]

theorem kmx : key 9218868437227405311 = 9218868437227405311 := by decide +kernel
theorem kmn : key 18442240474082181119 = -9218868437227405312 := by decide +kernel
theorem k_0 : key 0 = 0 := by decide +kernel
theorem fmx : F64 9218868437227405311 := F64_const (by decide)
theorem fmn : F64 18442240474082181119 := F64_const (by decide)
theorem f_0 : F64 0 := F64_const (by decide)
theorem b_lt0 {x : Nat} (hx : F64 x) (B : Bool) (h : B = true ↔ key x < -1) : (ord x 0 == some .lt) = B := b_lt hx f_0 B (by rw [h, k_0]; unfold zk; split <;> omega)
theorem b_gt0 {x : Nat} (hx : F64 x) (B : Bool) (h : B = true ↔ 0 < key x ∧ key x ≤ 9218868437227405312) : (ord x 0 == some .gt) = B := b_gt hx f_0 B (by rw [h, k_0]; unfold zk; split <;> omega)
theorem b_mn {x : Nat} (hx : F64 x) (B : Bool) (h : B = true ↔ key x < -9218868437227405312) : (ord x 18442240474082181119 == some .lt) = B := b_lt hx fmn B (by rw [h, kmn]; unfold zk; split <;> omega)
theorem b_mx {x : Nat} (hx : F64 x) (B : Bool) (h : B = true ↔ key x = 9218868437227405312) : (ord x 9218868437227405311 == some .gt) = B := b_gt hx fmx B (by rw [h, kmx]; unfold zk; split <;> omega)
theorem q_p0 : floatBits .quo .f64 4607182418800017408 0 = some 9218868437227405312 := by decide +kernel
theorem q_n0 : floatBits .quo .f64 4607182418800017408 9223372036854775808 = some 18442240474082181120 := by decide +kernel

set_option maxHeartbeats 1000000 in
theorem Class_ok (x : Nat) (hx : F64 x) (w : World) : Calls Try.prog 10 #[.float .f64 x] w fun e w' => e = .returned (.int .i64 (clk (key x))) ∧ w' = w := by
  have hb := key_b x
  by_cases c6 : 9218868437227405312 < key x
  · have o1 := b_nself hx true (by simp; omega)
    rw [clk6 c6]
    clear hb hx c6
    go_enter Try.func10, Try.ntmps10
    go_wp2_with fail
    go_ret
    exact ⟨rfl, rfl⟩
  have o1 := b_nself hx false (by simp; omega)
  by_cases c0 : key x < -9218868437227405312
  · have o2 := b_mn hx true (by simp; omega)
    rw [clk0 c0]
    clear hb hx c0 c6
    go_enter Try.func10, Try.ntmps10
    go_wp2_with fail
    go_ret
    exact ⟨rfl, rfl⟩
  have o2 := b_mn hx false (by simp; omega)
  by_cases c5 : key x = 9218868437227405312
  · have o3 := b_mx hx true (by simp; omega)
    rw [c5, show clk 9218868437227405312 = 5 by decide]
    clear hb hx c0 c6 c5
    go_enter Try.func10, Try.ntmps10
    go_wp2_with fail
    go_ret
    exact ⟨rfl, rfl⟩
  have o3 := b_mx hx false (by simp; omega)
  by_cases c1 : key x < -1
  · have o4 := b_lt0 hx true (by simp; omega)
    rw [clk1 c0 c1]
    clear hb hx c0 c6 c5 c1
    go_enter Try.func10, Try.ntmps10
    go_wp2_with fail
    go_ret
    exact ⟨rfl, rfl⟩
  have o4 := b_lt0 hx false (by simp; omega)
  by_cases c4 : 0 < key x
  · have o5 := b_gt0 hx true (by simp; omega)
    rw [clk4 c4 (by omega)]
    clear hb hx c0 c6 c5 c1 c4
    go_enter Try.func10, Try.ntmps10
    go_wp2_with fail
    go_ret
    exact ⟨rfl, rfl⟩
  have o5 := b_gt0 hx false (by simp; omega)
  by_cases c2 : key x = -1
  · obtain rfl := key_bits hx (by omega) c2
    have q := fun w => run_float_arith (P := Try.prog) w .quo 22 .f64 4607182418800017408 9223372036854775808 _ q_n0
    have o6 : (ord 18442240474082181120 0 == some .lt) = true := by decide +kernel
    rw [c2, show clk (-1) = 2 by decide]
    clear hb hx c0 c6 c5 c1 c4 c2
    go_enter Try.func10, Try.ntmps10
    go_wp2_with fail
    go_ret
    exact ⟨rfl, rfl⟩
  · have c3 : key x = 0 := by omega
    obtain rfl := key_zero hx c3
    have q := fun w => run_float_arith (P := Try.prog) w .quo 22 .f64 4607182418800017408 0 _ q_p0
    have o6 : (ord 9218868437227405312 0 == some .lt) = false := by decide +kernel
    rw [c3, show clk 0 = 3 by decide]
    clear hb hx c0 c6 c5 c1 c4 c2 c3
    go_enter Try.func10, Try.ntmps10
    go_wp2_with fail
    go_ret
    exact ⟨rfl, rfl⟩
/-- Whether a comes ahead of b. -/
def ahd (a b : Nat) : Bool := decide (key a < key b)
theorem ahd_iff {a b : Nat} : ahd a b = true ↔ key a < key b := by unfold ahd; exact decide_eq_true_iff
theorem ahd_not {a b : Nat} : ahd a b = false ↔ key b ≤ key a := by unfold ahd; rw [decide_eq_false_iff_not]; omega
set_option maxHeartbeats 1000000 in
theorem Ahead_ok (a b : Nat) (ha : F64 a) (hb : F64 b) (w : World) : Calls Try.prog 12 #[.float .f64 a, .float .f64 b] w fun e w' => e = .returned (.bool (ahd a b)) ∧ w' = w := by
  have c1 := fun w => Lib.hid (Class_ok a ha w)
  have c2 := fun w => Lib.hid (Class_ok b hb w)
  by_cases h : clk (key a) = clk (key b)
  · have o : (ord a b == some .lt) = ahd a b := b_lt ha hb _ (by
      rw [ahd_iff]
      have k1 := key_b a
      have k2 := key_b b
      generalize key a = x at *
      generalize key b = y at *
      unfold clk at h
      unfold zk
      repeat' split at h
      all_goals first | omega | (split <;> split <;> omega))
    rw [← h] at c2
    have O := Lib.hid o
    clear h o
    generalize clk (key a) = x at *
    generalize ahd a b = B at *
    go_enter Try.func12, Try.ntmps12
    go_wp2_with fail
    refine (c1 _).out.mono ?_
    rintro e w1 ⟨rfl, rfl⟩
    go_wp2_with fail
    refine (c2 _).out.mono ?_
    rintro e w1 ⟨rfl, rfl⟩
    go_wp2_with fail
    go_ret
    exact ⟨congrArg _ (congrArg _ O.out), rfl⟩
  · have o : ahd a b = decide (clk (key a) < clk (key b)) := by
      unfold ahd
      by_cases hl : key a < key b
      · have := clk_mono (Int.le_of_lt hl)
        rw [decide_eq_true hl, decide_eq_true (by omega)]
      · have := clk_mono (show key b ≤ key a by omega)
        rw [decide_eq_false hl, decide_eq_false (by omega)]
    rw [o]
    clear o
    generalize clk (key a) = x at *
    generalize clk (key b) = y at *
    go_enter Try.func12, Try.ntmps12
    go_wp2_with fail
    refine (c1 _).out.mono ?_
    rintro e w1 ⟨rfl, rfl⟩
    go_wp2_with fail
    refine (c2 _).out.mono ?_
    rintro e w1 ⟨rfl, rfl⟩
    go_wp2_with fail
    go_ret
    exact ⟨rfl, rfl⟩
set_option maxHeartbeats 1000000 in
theorem behind_ok (a b : Nat) (ha : F64 a) (hb : F64 b) (w : World) : Calls Try.prog 23 #[.float .f64 a, .float .f64 b] w fun e w' => e = .returned (.bool (ahd b a)) ∧ w' = w := by
  have c1 := fun w => Lib.hid (Ahead_ok b a hb ha w)
  clear ha hb
  generalize ahd b a = B at *
  go_enter Try.func23, Try.ntmps23
  go_wp2_with fail
  refine (c1 _).out.mono ?_
  rintro e w1 ⟨rfl, rfl⟩
  go_wp2_with fail
  go_ret
  exact ⟨rfl, rfl⟩

/-- Share, where the quotient is a number or infinite. -/
theorem Share_some (a b : Int) (r : Nat) (h : floatBits .quo .f64 (floatOfInt .f64 a) (floatOfInt .f64 b) = some r) (w : World) :
    Calls Try.prog 18 #[.int .i64 a, .int .i64 b] w fun e w' => e = .returned (.float .f64 r) ∧ w' = w := by
  have q := fun w => run_float_arith (P := Try.prog) w .quo 22 .f64 _ _ _ h
  clear h
  go_enter Try.func18, Try.ntmps18
  go_wp2_with fail
  go_ret
  exact ⟨rfl, rfl⟩
set_option maxHeartbeats 1000000 in
theorem alive_ok (w : World) : Calls Try.prog 20 #[] w fun e w' => e = .returned (.bool true) ∧ w' = w := by
  have c1 := fun w => Lib.hid (Share_some 0 (-3) 9223372036854775808 (by decide +kernel) w)
  have c2 := fun w => Lib.hid (Class_ok 9223372036854775808 (F64_const (by decide)) w)
  rw [show clk (key 9223372036854775808) = 2 by decide +kernel] at c2
  have c3 := fun w => Lib.hid (Share_some (-1) 0 18442240474082181120 (by decide +kernel) w)
  have c4 := fun w => Lib.hid (Class_ok 18442240474082181120 (F64_const (by decide)) w)
  rw [show clk (key 18442240474082181120) = 0 by decide +kernel] at c4
  go_enter Try.func20, Try.ntmps20
  go_wp2_with fail
  refine (c1 _).out.mono ?_
  rintro e w1 ⟨rfl, rfl⟩
  go_wp2_with fail
  refine (c2 _).out.mono ?_
  rintro e w1 ⟨rfl, rfl⟩
  go_wp2_with fail
  refine (c3 _).out.mono ?_
  rintro e w1 ⟨rfl, rfl⟩
  go_wp2_with fail
  refine (c4 _).out.mono ?_
  rintro e w1 ⟨rfl, rfl⟩
  go_wp2_with fail
  go_ret
  exact ⟨rfl, rfl⟩
end Go.Proofs.Ythldaebinchpdaa
