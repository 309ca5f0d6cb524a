/-
  Words: one flag set, or cleared, by '|' and '&^'.
-/
import Derived.Test.YtbnmcplfloghjaaDoorFlagsWord
namespace Go.Proofs.YtbnmcplfloghjaaDoor
open Go.ChangeShapes Go.WideShapes Go.ChangeAt Go.RowKit
set_option linter.unusedVariables false

namespace P3
theorem i64_or_low (m y z : Nat) (hy : y < 8) (hz : z < 8) (hm : m < 2 ^ 59) : bits .or .i64 ((8 * m + y : Nat) : Int) (z : Int) = ((8 * m + (y ||| z) : Nat) : Int) := by
  have hyz : y ||| z < 8 := Nat.or_lt_two_pow (n := 3) hy hz
  show IntKind.i64.wrap ((BitVec.ofInt 64 ((8 * m + y : Nat) : Int) ||| BitVec.ofInt 64 (z : Int)).toNat : Int) = _
  rw [BitVec.toNat_or, ofInt_i64 _ (by omega), ofInt_i64 _ (by omega), ← nat_join 3 (8 * m) y (by omega) hy, Nat.or_assoc, nat_join 3 (8 * m) (y ||| z) (by omega) hyz, i64_small (by omega)]
theorem bv_andNot (X Y : BitVec 64) : (X &&& ~~~Y) + (X &&& Y) = X := by
  have h : (X &&& ~~~Y) &&& (X &&& Y) = 0#64 := by
    ext i hi
    simp
    cases X[i] <;> cases Y[i] <;> decide
  rw [BitVec.add_eq_or_of_and_eq_zero _ _ h]
  ext i hi
  simp
  cases X[i] <;> cases Y[i] <;> rfl
theorem i64_andNot (x z : Nat) (hx : x < 2 ^ 63) (hz : z < 2 ^ 63) : bits .andNot .i64 (x : Int) (z : Int) = ((x - (x &&& z) : Nat) : Int) := by
  have e := congrArg BitVec.toNat (bv_andNot (BitVec.ofInt 64 (x : Int)) (BitVec.ofInt 64 (z : Int)))
  have l : (BitVec.ofInt 64 (x : Int) &&& ~~~BitVec.ofInt 64 (z : Int)).toNat ≤ x := by
    rw [BitVec.toNat_and, ofInt_i64 x hx]; exact Nat.and_le_left
  have l2 : x &&& z ≤ x := Nat.and_le_left
  rw [BitVec.toNat_add, BitVec.toNat_and (BitVec.ofInt 64 (x : Int)) (BitVec.ofInt 64 (z : Int)), ofInt_i64 x hx, ofInt_i64 z hz] at e
  show IntKind.i64.wrap ((BitVec.ofInt 64 (x : Int) &&& ~~~BitVec.ofInt 64 (z : Int)).toNat : Int) = _
  generalize (BitVec.ofInt 64 (x : Int) &&& ~~~BitVec.ofInt 64 (z : Int)).toNat = q at *
  rw [Nat.mod_eq_of_lt (by omega)] at e
  rw [i64_small (by omega)]
  omega
section
variable {a b c : Bool} {n : Int}
theorem low_of (a b c : Bool) (n : Int) (h : 0 ≤ n ∧ n < 536870912) : ∃ m y : Nat, pw a b c n = ((8 * m + y : Nat) : Int) ∧ (m : Int) = n ∧ y = (if c then 4 else 0) + (if b then 2 else 0) + (if a then 1 else 0) ∧ y < 8 := by
  refine ⟨n.toNat, (if c then 4 else 0) + (if b then 2 else 0) + (if a then 1 else 0), ?_, by omega, rfl, by cases a <;> cases b <;> cases c <;> decide⟩
  unfold pw
  cases a <;> cases b <;> cases c <;> simp [b1] <;> omega
theorem or_1 (h : 0 ≤ n ∧ n < 536870912) : bits .or .i64 (pw a b c n) 1 = pw true b c n := by
  obtain ⟨m, y, e, hm, hy, hl⟩ := low_of a b c n h
  rw [e, show (1 : Int) = ((1 : Nat) : Int) from rfl, i64_or_low m y 1 hl (by decide) (by omega)]
  unfold pw
  subst hy
  cases a <;> cases b <;> cases c <;> simp [b1] <;> omega
theorem or_4 (h : 0 ≤ n ∧ n < 536870912) : bits .or .i64 (pw a b c n) 4 = pw a b true n := by
  obtain ⟨m, y, e, hm, hy, hl⟩ := low_of a b c n h
  rw [e, show (4 : Int) = ((4 : Nat) : Int) from rfl, i64_or_low m y 4 hl (by decide) (by omega)]
  unfold pw
  subst hy
  cases a <;> cases b <;> cases c <;> simp [b1] <;> omega
theorem or_2 (h : 0 ≤ n ∧ n < 536870912) : bits .or .i64 (pw a b c n) 2 = pw a true c n := by
  obtain ⟨m, y, e, hm, hy, hl⟩ := low_of a b c n h
  rw [e, show (2 : Int) = ((2 : Nat) : Int) from rfl, i64_or_low m y 2 hl (by decide) (by omega)]
  unfold pw
  subst hy
  cases a <;> cases b <;> cases c <;> simp [b1] <;> omega
/-- The three low bits, as a number. -/
def lowI (a b c : Bool) : Int := 4 * b1 c + 2 * b1 b + b1 a
theorem and7 (h : 0 ≤ n ∧ n < 536870912) : bits .and .i64 (pw a b c n) 7 = lowI a b c := by
  obtain ⟨m, y, e, hm, hy, hl⟩ := low_of a b c n h
  rw [e, show (7 : Int) = ((7 : Nat) : Int) from rfl]
  show IntKind.i64.wrap ((BitVec.ofInt 64 ((8 * m + y : Nat) : Int) &&& BitVec.ofInt 64 ((7 : Nat) : Int)).toNat : Int) = _
  rw [BitVec.toNat_and, ofInt_i64 _ (by omega), ofInt_i64 7 (by decide), show (7 : Nat) = 2 ^ 3 - 1 from rfl, Nat.and_two_pow_sub_one_eq_mod, i64_small (by omega)]
  have h8 : (8 * m + y) % 2 ^ 3 = y := by omega
  rw [h8]
  subst hy
  cases a <;> cases b <;> cases c <;> rfl
theorem not_2 (h : 0 ≤ n ∧ n < 536870912) : bits .andNot .i64 (pw a b c n) 2 = pw a false c n := by
  obtain ⟨m, y, e, hm, hy, hl⟩ := low_of a b c n h
  rw [e, show (2 : Int) = ((2 : Nat) : Int) from rfl, i64_andNot _ 2 (by omega) (by decide), nat_bit1]
  unfold pw
  subst hy
  cases a <;> cases b <;> cases c <;> simp [b1] <;> omega
end
end P3
end Go.Proofs.YtbnmcplfloghjaaDoor
