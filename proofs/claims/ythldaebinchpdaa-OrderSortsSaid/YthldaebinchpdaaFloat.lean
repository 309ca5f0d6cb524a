/-
  Floats as their bits: sign, rung, and the order of the numbers that they stand for.
-/
import Derived.Laws.FloatArith
namespace Go.Proofs.Ythldaebinchpdaa
open Ieee

theorem db_sw : double.signWeight = 9223372036854775808 := by decide +kernel
theorem db_bn : double.binade = 4503599627370496 := by decide +kernel
theorem db_inf : double.infRung = 9218868437227405312 := by decide +kernel
theorem db_least : double.leastPlace = -1074 := by decide +kernel
theorem db_frac : double.fractionBits = 52 := rfl

/-- A word of 64 bits. -/
def F64 (x : Nat) : Prop := x < 18446744073709551616
/-- Its sign. -/
def sg (x : Nat) : Bool := decide (9223372036854775808 ≤ x)
/-- Its rung. -/
def rg (x : Nat) : Nat := x % 9223372036854775808
/-- No number. -/
def isN (x : Nat) : Bool := decide (9218868437227405312 < rg x)
/-- Rung with sign. -/
def srg (x : Nat) : Int := if sg x then -(rg x : Int) else (rg x : Int)
/-- Digits and place of a rung. -/
def mg (r : Nat) : Nat := if r < 4503599627370496 then r else 4503599627370496 + r % 4503599627370496
def pl (r : Nat) : Nat := r / 4503599627370496 - 1
def vl (r : Nat) : Nat := mg r * 2 ^ pl r

theorem read_eq {x : Nat} (hx : F64 x) : double.read x =
    if rg x < 9218868437227405312 then .number (sg x) (mg (rg x)) (-1074 + (pl (rg x) : Int)) else if rg x = 9218868437227405312 then .infinity (sg x) else .nan (sg x) (rg x - 9218868437227405312) := by
  unfold F64 at hx
  have hs : (x / 9223372036854775808 % 2 == 1) = sg x := by
    unfold sg
    rw [Bool.eq_iff_iff]
    simp only [beq_iff_eq, decide_eq_true_eq]
    omega
  unfold Format.read
  simp only [db_sw, db_bn, db_inf, db_least]
  rw [hs]
  show (if rg x < 4503599627370496 then _ else _) = _
  by_cases h1 : rg x < 4503599627370496
  · have hp : pl (rg x) = 0 := by unfold pl; omega
    rw [if_pos h1, if_pos (by omega), hp]
    unfold mg
    rw [if_pos h1]
    rfl
  · rw [if_neg h1]
    show (if rg x < 9218868437227405312 then _ else _) = _
    unfold mg pl
    rw [if_neg h1]
    rfl

theorem vl_lo {r : Nat} (h : r < 4503599627370496) : vl r = r := by
  unfold vl mg pl
  rw [if_pos h, show r / 4503599627370496 - 1 = 0 by omega]
  omega
theorem vl_step (r : Nat) : vl r < vl (r + 1) := by
  by_cases h1 : r + 1 < 4503599627370496
  · rw [vl_lo h1, vl_lo (by omega)]; omega
  · by_cases h2 : r < 4503599627370496
    · obtain rfl : r = 4503599627370495 := by omega
      decide +kernel
    · unfold vl mg
      rw [if_neg h2, if_neg h1]
      by_cases h3 : (r + 1) % 4503599627370496 = 0
      · have e1 : r % 4503599627370496 = 4503599627370495 := by omega
        have e2 : pl (r + 1) = pl r + 1 := by unfold pl; omega
        rw [h3, e1, e2, Nat.pow_succ]
        have := Nat.two_pow_pos (pl r)
        generalize 2 ^ pl r = z at *
        omega
      · have e1 : (r + 1) % 4503599627370496 = r % 4503599627370496 + 1 := by omega
        have e2 : pl (r + 1) = pl r := by unfold pl; omega
        rw [e1, e2]
        exact Nat.mul_lt_mul_of_pos_right (by omega) (Nat.two_pow_pos _)
theorem vl_add (r k : Nat) : vl r < vl (r + k + 1) := by
  induction k with
  | zero => exact vl_step r
  | succ k ih => exact Nat.lt_trans ih (vl_step (r + k + 1))
theorem vl_lt {r s : Nat} (h : r < s) : vl r < vl s := by
  have := vl_add r (s - r - 1)
  rwa [show r + (s - r - 1) + 1 = s by omega] at this
theorem vl_lt_iff {r s : Nat} : vl r < vl s ↔ r < s := by
  refine ⟨fun h => ?_, vl_lt⟩
  by_cases h1 : r < s
  · exact h1
  · by_cases h2 : r = s
    · subst h2; omega
    · have := vl_lt (show s < r by omega); omega
theorem vl_eq_iff {r s : Nat} : vl r = vl s ↔ r = s := by
  refine ⟨fun h => ?_, fun h => by rw [h]⟩
  by_cases h1 : r < s
  · have := vl_lt h1; omega
  · by_cases h2 : s < r
    · have := vl_lt h2; omega
    · omega
theorem vl_zero : vl 0 = 0 := by decide +kernel

theorem cmp_same {a b c d : Int} (h1 : a < b ↔ c < d) (h2 : a = b ↔ c = d) : compare a b = compare c d := by
  rcases Int.lt_trichotomy a b with h | h | h
  · rw [Int.compare_eq_lt.2 h, Int.compare_eq_lt.2 (h1.1 h)]
  · rw [Int.compare_eq_eq.2 h, Int.compare_eq_eq.2 (h2.1 h)]
  · rw [Int.compare_eq_gt.2 h, Int.compare_eq_gt.2 (by
      rcases Int.lt_trichotomy c d with k | k | k
      · have := h1.2 k; omega
      · have := h2.2 k; omega
      · exact k)]
/-- A magnitude with its sign. -/
def wsg (s : Bool) (v : Nat) : Int := if s then -(v : Int) else (v : Int)
theorem wsg_cmp (s t : Bool) (r q : Nat) : compare (wsg s (vl r)) (wsg t (vl q)) = compare (wsg s r) (wsg t q) := by
  have h1 := @vl_lt_iff r q
  have h2 := @vl_lt_iff q r
  have h3 := @vl_eq_iff r q
  have h4 : vl r = 0 ↔ r = 0 := by rw [← vl_zero]; exact vl_eq_iff
  have h5 : vl q = 0 ↔ q = 0 := by rw [← vl_zero]; exact vl_eq_iff
  generalize vl r = a at *
  generalize vl q = b at *
  cases s <;> cases t <;> refine cmp_same ?_ ?_ <;> simp only [wsg, if_true, if_false, Bool.false_eq_true] <;> omega
theorem wsg_scale (s t : Bool) (a b u : Nat) (hu : 0 < u) : compare (wsg s (a * u)) (wsg t (b * u)) = compare (wsg s a) (wsg t b) := by
  have h1 : a * u < b * u ↔ a < b := Nat.mul_lt_mul_right hu
  have h2 : b * u < a * u ↔ b < a := Nat.mul_lt_mul_right hu
  have h3 : a * u = b * u ↔ a = b := Nat.mul_right_cancel_iff hu
  have h4 : a * u = 0 ↔ a = 0 := by rw [Nat.mul_eq_zero]; omega
  have h5 : b * u = 0 ↔ b = 0 := by rw [Nat.mul_eq_zero]; omega
  generalize a * u = c at *
  generalize b * u = d at *
  cases s <;> cases t <;> refine cmp_same ?_ ?_ <;> simp only [wsg, if_true, if_false, Bool.false_eq_true] <;> omega
theorem signed_eq (s : Bool) (m k : Nat) : signed s m k = wsg s (m * 2 ^ k) := by
  unfold signed wsg
  rw [Nat.shiftLeft_eq]

theorem order_fin (s t : Bool) (r q : Nat) : Datum.order (.number s (mg r) (-1074 + (pl r : Int))) (.number t (mg q) (-1074 + (pl q : Int))) = some (compare (wsg s r) (wsg t q)) := by
  unfold Datum.order
  simp only [signed_eq]
  rw [← wsg_cmp s t r q]
  by_cases h : pl r ≤ pl q
  · rw [show (-1074 + (pl r : Int) - min (-1074 + (pl r : Int)) (-1074 + (pl q : Int))).toNat = 0 by omega, show (-1074 + (pl q : Int) - min (-1074 + (pl r : Int)) (-1074 + (pl q : Int))).toNat = pl q - pl r by omega,
      ← wsg_scale s t (mg r * 2 ^ 0) (mg q * 2 ^ (pl q - pl r)) (2 ^ pl r) (Nat.two_pow_pos _)]
    unfold vl
    rw [Nat.mul_assoc, Nat.mul_assoc, ← Nat.pow_add, ← Nat.pow_add, show 0 + pl r = pl r by omega, show pl q - pl r + pl r = pl q by omega]
  · rw [show (-1074 + (pl q : Int) - min (-1074 + (pl r : Int)) (-1074 + (pl q : Int))).toNat = 0 by omega, show (-1074 + (pl r : Int) - min (-1074 + (pl r : Int)) (-1074 + (pl q : Int))).toNat = pl r - pl q by omega,
      ← wsg_scale s t (mg r * 2 ^ (pl r - pl q)) (mg q * 2 ^ 0) (2 ^ pl q) (Nat.two_pow_pos _)]
    unfold vl
    rw [Nat.mul_assoc, Nat.mul_assoc, ← Nat.pow_add, ← Nat.pow_add, show 0 + pl q = pl q by omega, show pl r - pl q + pl q = pl r by omega]

theorem cmp_of_lt {a b : Int} (h : a < b) : compare a b = .lt := Int.compare_eq_lt.2 h
theorem cmp_of_gt {a b : Int} (h : b < a) : compare a b = .gt := Int.compare_eq_gt.2 h

/-- HOW TWO STAND TO EACH OTHER. -/
theorem order_eq {x y : Nat} (hx : F64 x) (hy : F64 y) : double.order x y = if isN x || isN y then none else some (compare (srg x) (srg y)) := by
  unfold Format.order
  rw [read_eq hx, read_eq hy]
  have ex : srg x = wsg (sg x) (rg x) := rfl
  have ey : srg y = wsg (sg y) (rg y) := rfl
  rw [ex, ey]
  unfold isN
  generalize rg x = r
  generalize rg y = q
  generalize sg x = s
  generalize sg y = t
  by_cases h1 : r < 9218868437227405312
  · rw [if_pos h1, decide_eq_false (show ¬ 9218868437227405312 < r by omega)]
    by_cases h2 : q < 9218868437227405312
    · rw [if_pos h2, decide_eq_false (show ¬ 9218868437227405312 < q by omega), order_fin]
      rfl
    · rw [if_neg h2]
      by_cases h3 : q = 9218868437227405312
      · rw [if_pos h3, decide_eq_false (show ¬ 9218868437227405312 < q by omega)]
        subst h3
        cases t
        · show some Ordering.lt = some _
          rw [cmp_of_lt (by unfold wsg; cases s <;> simp only [if_true, if_false, Bool.false_eq_true] <;> omega)]
        · show some Ordering.gt = some _
          rw [cmp_of_gt (by unfold wsg; cases s <;> simp only [if_true, if_false, Bool.false_eq_true] <;> omega)]
      · rw [if_neg h3, decide_eq_true (show 9218868437227405312 < q by omega)]
        rfl
  · rw [if_neg h1]
    by_cases h3 : r = 9218868437227405312
    · rw [if_pos h3, decide_eq_false (show ¬ 9218868437227405312 < r by omega)]
      subst h3
      by_cases h2 : q < 9218868437227405312
      · rw [if_pos h2, decide_eq_false (show ¬ 9218868437227405312 < q by omega)]
        cases s
        · show some Ordering.gt = some _
          rw [cmp_of_gt (by unfold wsg; cases t <;> simp only [if_true, if_false, Bool.false_eq_true] <;> omega)]
        · show some Ordering.lt = some _
          rw [cmp_of_lt (by unfold wsg; cases t <;> simp only [if_true, if_false, Bool.false_eq_true] <;> omega)]
      · rw [if_neg h2]
        by_cases h4 : q = 9218868437227405312
        · rw [if_pos h4, decide_eq_false (show ¬ 9218868437227405312 < q by omega)]
          subst h4
          cases s <;> cases t <;> decide
        · rw [if_neg h4, decide_eq_true (show 9218868437227405312 < q by omega)]
          rfl
    · rw [if_neg h3, decide_eq_true (show 9218868437227405312 < r by omega)]
      by_cases h2 : q < 9218868437227405312
      · rw [if_pos h2]; rfl
      · rw [if_neg h2]
        by_cases h4 : q = 9218868437227405312
        · rw [if_pos h4]; rfl
        · rw [if_neg h4]; rfl
end Go.Proofs.Ythldaebinchpdaa
