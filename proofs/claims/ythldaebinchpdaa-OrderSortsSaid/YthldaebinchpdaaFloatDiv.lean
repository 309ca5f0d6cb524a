/-
  Floats: what a number is rounded to, an int as a float, and a quotient of two.
-/
import Derived.Test.YthldaebinchpdaaFloat
namespace Go.Proofs.Ythldaebinchpdaa
open Ieee

/-- n / 2^d, rounded to the nearest, ties to even. -/
def rn (n d : Nat) : Nat := n / 2 ^ d + (decide (2 ^ d < 2 * (n % 2 ^ d)) || (2 ^ d == 2 * (n % 2 ^ d) && n / 2 ^ d % 2 == 1)).toNat
theorem rn_ge (n d : Nat) : n / 2 ^ d ≤ rn n d := Nat.le_add_right _ _
theorem rn_le (n d : Nat) : rn n d ≤ n / 2 ^ d + 1 := by
  unfold rn
  have := Bool.toNat_le (decide (2 ^ d < 2 * (n % 2 ^ d)) || (2 ^ d == 2 * (n % 2 ^ d) && n / 2 ^ d % 2 == 1))
  omega
theorem rn_exact {n d : Nat} (h : n % 2 ^ d = 0) : rn n d = n / 2 ^ d := by
  unfold rn
  rw [h]
  have h1 : 0 < 2 ^ d := Nat.two_pow_pos d
  have h2 : (2 ^ d == 2 * 0) = false := by rw [beq_eq_false_iff_ne]; omega
  rw [h2, decide_eq_false (by omega)]
  rfl
theorem rn_mono {n m d : Nat} (h : n ≤ m) : rn n d ≤ rn m d := by
  have h1 : n / 2 ^ d ≤ m / 2 ^ d := Nat.div_le_div_right h
  by_cases h2 : n / 2 ^ d < m / 2 ^ d
  · have := rn_le n d
    have := rn_ge m d
    omega
  · have h3 : n / 2 ^ d = m / 2 ^ d := by omega
    have e1 := Nat.div_add_mod n (2 ^ d)
    have e2 := Nat.div_add_mod m (2 ^ d)
    rw [← h3] at e2
    have h4 : n % 2 ^ d ≤ m % 2 ^ d := by omega
    unfold rn
    rw [← h3]
    have h5 : (decide (2 ^ d < 2 * (n % 2 ^ d)) || (2 ^ d == 2 * (n % 2 ^ d) && n / 2 ^ d % 2 == 1)) = true → (decide (2 ^ d < 2 * (m % 2 ^ d)) || (2 ^ d == 2 * (m % 2 ^ d) && n / 2 ^ d % 2 == 1)) = true := by
      simp only [Bool.or_eq_true, decide_eq_true_eq, Bool.and_eq_true, beq_iff_eq]
      intro h
      by_cases h6 : 2 ^ d < 2 * (m % 2 ^ d)
      · exact .inl h6
      · right
        rcases h with h | h
        · omega
        · exact ⟨by omega, h.2⟩
    have h6 : ∀ a b : Bool, (a = true → b = true) → a.toNat ≤ b.toNat := by decide
    exact Nat.add_le_add_left (h6 _ _ h5) _

theorem cut_eq (s : Bool) (n d : Nat) (h : d ≤ n.log2 + 2) : Toward.even.cut s n d = rn n d := by
  unfold Toward.cut rn
  simp only [Nat.min_eq_left h, Nat.one_shiftLeft]

theorem log2_eq {m k : Nat} (h1 : 2 ^ k ≤ m) (h2 : m < 2 ^ (k + 1)) : m.log2 = k := by
  have h0 : m ≠ 0 := by have := Nat.two_pow_pos k; omega
  have := (Nat.le_log2 h0).2 h1
  have := (Nat.log2_lt h0).2 h2
  omega
theorem log2_b {m : Nat} (h : m ≠ 0) : 2 ^ m.log2 ≤ m ∧ m < 2 ^ (m.log2 + 1) := ⟨(Nat.le_log2 h).1 (Nat.le_refl _), (Nat.log2_lt h).1 (Nat.lt_succ_self _)⟩

/-- The digits that are kept. -/
def kp (m L : Nat) : Nat := rn (m * 2 ^ (52 - L)) (L - 52)
theorem kp_b {m L : Nat} (hL : m.log2 = L) (h0 : m ≠ 0) : 4503599627370496 ≤ kp m L ∧ kp m L ≤ 9007199254740992 := by
  obtain ⟨h1, h2⟩ := log2_b h0
  rw [hL] at h1 h2
  unfold kp
  by_cases h : L ≤ 52
  · have e0 : L - 52 = 0 := by omega
    rw [e0, rn_exact (by rw [Nat.pow_zero, Nat.mod_one]), Nat.pow_zero, Nat.div_one]
    have e1 : 2 ^ L * 2 ^ (52 - L) = 4503599627370496 := by rw [← Nat.pow_add, show L + (52 - L) = 52 by omega]
    have e2 : 2 ^ (L + 1) * 2 ^ (52 - L) = 9007199254740992 := by rw [← Nat.pow_add, show L + 1 + (52 - L) = 53 by omega]
    have := Nat.mul_le_mul_right (2 ^ (52 - L)) h1
    have := Nat.mul_le_mul_right (2 ^ (52 - L)) (Nat.le_of_lt h2)
    omega
  · have e0 : 52 - L = 0 := by omega
    rw [e0, Nat.pow_zero, Nat.mul_one]
    have e1 : 2 ^ L = 4503599627370496 * 2 ^ (L - 52) := by rw [show (4503599627370496 : Nat) = 2 ^ 52 by decide, ← Nat.pow_add, show 52 + (L - 52) = L by omega]
    have e2 : 2 ^ (L + 1) = 9007199254740992 * 2 ^ (L - 52) := by rw [show (9007199254740992 : Nat) = 2 ^ 53 by decide, ← Nat.pow_add, show 53 + (L - 52) = L + 1 by omega]
    have h3 : 0 < 2 ^ (L - 52) := Nat.two_pow_pos _
    have h4 : 4503599627370496 ≤ m / 2 ^ (L - 52) := (Nat.le_div_iff_mul_le h3).2 (by omega)
    have h5 : m / 2 ^ (L - 52) < 9007199254740992 := (Nat.div_lt_iff_lt_mul h3).2 (by omega)
    have := rn_ge m (L - 52)
    have := rn_le m (L - 52)
    omega

theorem nearest_eq (s : Bool) (m L : Nat) (place : Int) (h0 : m ≠ 0) (hL : m.log2 = L) (hp : -1074 ≤ place + L - 52) :
    double.nearest s m place = double.word s (min ((place + L - 52 + 1074).toNat * 4503599627370496 + kp m L) 9218868437227405312) := by
  unfold Format.nearest
  rw [if_neg h0]
  simp only [db_bn, db_inf, db_least, db_frac, hL]
  have e1 : max (place + (L : Int) - 52) (-1074) = place + L - 52 := by omega
  have e1' : max (place + (L : Int) - ((52 : Nat) : Int)) (-1074) = place + L - 52 := by omega
  rw [e1', show (place - (place + (L : Int) - 52)).toNat = 52 - L by omega, show (place + (L : Int) - 52 - place).toNat = L - 52 by omega, show (place + (L : Int) - 52 - -1074).toNat = (place + L - 52 + 1074).toNat by omega, Nat.shiftLeft_eq]
  rw [cut_eq]
  · rfl
  · by_cases h : L ≤ 52
    · omega
    · rw [show 52 - L = 0 by omega, Nat.pow_zero, Nat.mul_one, hL]
      omega

theorem word_eq (s : Bool) (r : Nat) : double.word s r = if s then 9223372036854775808 + r else r := by
  unfold Format.word
  rw [db_sw]
theorem word_sg {s : Bool} {r : Nat} (h : r < 9223372036854775808) : sg (double.word s r) = s ∧ rg (double.word s r) = r ∧ F64 (double.word s r) := by
  rw [word_eq]
  unfold sg rg F64
  cases s
  · simp only [Bool.false_eq_true, if_false, decide_eq_false_iff_not]
    omega
  · simp only [if_true, decide_eq_true_eq]
    omega

/-- The rung of a natural number. -/
def irg (m : Nat) : Nat := (m.log2 + 1022) * 4503599627370496 + kp m m.log2
theorem irg_b {m : Nat} (h0 : m ≠ 0) (h : m ≤ 9223372036854775808) : 4607182418800017408 ≤ irg m ∧ irg m ≤ 4895412794951729152 := by
  have hk := kp_b rfl h0
  have hL : m.log2 ≤ 63 := by
    have := (Nat.log2_lt h0 (k := 64)).2 (by omega)
    omega
  unfold irg
  omega
theorem irg_mono {m n : Nat} (h0 : m ≠ 0) (h : m ≤ n) : irg m ≤ irg n := by
  have h0' : n ≠ 0 := by omega
  have hk := kp_b rfl h0
  have hk' := kp_b rfl h0'
  have h1 := log2_b h0
  have h2 := log2_b h0'
  have hL : m.log2 ≤ n.log2 := by
    have := (Nat.log2_lt h0 (k := n.log2 + 1)).2 (by omega)
    omega
  unfold irg
  by_cases hlt : m.log2 < n.log2
  · omega
  · have e : n.log2 = m.log2 := by omega
    rw [e]
    unfold kp
    have := @rn_mono (m * 2 ^ (52 - m.log2)) (n * 2 ^ (52 - m.log2)) (m.log2 - 52) (Nat.mul_le_mul_right _ h)
    omega
/-- AN INT AS A FLOAT. -/
theorem ofInt_eq (a : Int) (h0 : a ≠ 0) (h : a.natAbs ≤ 9223372036854775808) : floatOfInt .f64 a = double.word (decide (a < 0)) (irg a.natAbs) := by
  have hn : a.natAbs ≠ 0 := by omega
  show double.nearest (decide (a < 0)) a.natAbs 0 = _
  have hb := irg_b hn h
  have hl := log2_b hn
  rw [nearest_eq (decide (a < 0)) a.natAbs a.natAbs.log2 0 hn rfl (by omega)]
  unfold irg at *
  rw [show ((0 : Int) + (a.natAbs.log2 : Int) - 52 + 1074).toNat = a.natAbs.log2 + 1022 by omega, Nat.min_eq_left (by omega)]
theorem ofInt_zero : floatOfInt .f64 0 = 0 := by decide +kernel

/-- The quotient's digits. -/
def qd (m n : Nat) : Nat := 2 * (m * 18014398509481984 / n) + (m * 18014398509481984 % n != 0).toNat
/-- The rung of a quotient, its places apart. -/
def qrg (p q m n : Nat) : Nat := if n ≤ m then (p + 1022 - q) * 4503599627370496 + rn (qd m n) 3 else (p + 1021 - q) * 4503599627370496 + rn (qd m n) 2
theorem qd_hi {m n : Nat} (hm : m < 9007199254740992) (hn : 4503599627370496 ≤ n) (h : n ≤ m) : 36028797018963968 ≤ qd m n ∧ qd m n < 72057594037927936 := by
  unfold qd
  have h0 : 0 < n := by omega
  have h1 : 18014398509481984 ≤ m * 18014398509481984 / n := (Nat.le_div_iff_mul_le h0).2 (by omega)
  have h2 : m * 18014398509481984 / n < 36028797018963968 := (Nat.div_lt_iff_lt_mul h0).2 (by omega)
  have := Bool.toNat_le (m * 18014398509481984 % n != 0)
  omega
theorem qd_lo {m n : Nat} (hm : 4503599627370496 ≤ m) (hn : n < 9007199254740992) (h : m < n) : 18014398509481984 ≤ qd m n ∧ qd m n < 36028797018963968 := by
  unfold qd
  have h0 : 0 < n := by omega
  have h1 : 9007199254740992 ≤ m * 18014398509481984 / n := (Nat.le_div_iff_mul_le h0).2 (by omega)
  have h2 : m * 18014398509481984 / n < 18014398509481984 := (Nat.div_lt_iff_lt_mul h0).2 (by omega)
  have := Bool.toNat_le (m * 18014398509481984 % n != 0)
  omega
theorem qrg_b {p q m n : Nat} (hm : 4503599627370496 ≤ m ∧ m < 9007199254740992) (hn : 4503599627370496 ≤ n ∧ n < 9007199254740992) (h1 : q ≤ p + 1021) (h2 : p + 1022 ≤ q + 2045) :
    (p + 1021 - q) * 4503599627370496 + 4503599627370496 ≤ qrg p q m n ∧ qrg p q m n ≤ (p + 1022 - q) * 4503599627370496 + 9007199254740992 := by
  unfold qrg
  by_cases h : n ≤ m
  · rw [if_pos h]
    have := qd_hi hm.2 hn.1 h
    have := rn_ge (qd m n) 3
    have := rn_le (qd m n) 3
    omega
  · rw [if_neg h]
    have := qd_lo hm.1 hn.2 (by omega)
    have := rn_ge (qd m n) 2
    have := rn_le (qd m n) 2
    omega
theorem quotient_eq (s t : Bool) (p q m n : Nat) (hm : 4503599627370496 ≤ m ∧ m < 9007199254740992) (hn : 4503599627370496 ≤ n ∧ n < 9007199254740992) (h1 : q ≤ p + 1021) (h2 : p + 1022 ≤ q + 2045) :
    ((Datum.number s m (-1074 + (p : Int))).quotient 54 (.number t n (-1074 + (q : Int)))).map double.write = some (double.word (s ^^ t) (qrg p q m n)) := by
  have hb := qrg_b hm hn h1 (by omega)
  have l1 : m.log2 = 52 := log2_eq hm.1 hm.2
  have l2 : n.log2 = 52 := log2_eq hn.1 hn.2
  show Option.map double.write (if n = 0 then _ else _) = _
  rw [if_neg (by omega)]
  simp only [l1, l2, Option.map_some, Nat.shiftLeft_eq]
  refine congrArg some ?_
  show double.nearest (s ^^ t) (2 * (m * 18014398509481984 / n) + (m * 18014398509481984 % n != 0).toNat) (-1074 + (p : Int) - (-1074 + (q : Int)) - 54 - 1) = _
  have e : 2 * (m * 18014398509481984 / n) + (m * 18014398509481984 % n != 0).toNat = qd m n := rfl
  rw [e]
  by_cases h : n ≤ m
  · have hq := qd_hi hm.2 hn.1 h
    rw [nearest_eq _ (qd m n) 55 _ (by omega) (log2_eq hq.1 hq.2) (by omega)]
    unfold qrg at *
    rw [if_pos h] at *
    have ek : kp (qd m n) 55 = rn (qd m n) 3 := by unfold kp; rw [show 52 - 55 = 0 by decide, Nat.pow_zero, Nat.mul_one]
    rw [ek, show (-1074 + (p : Int) - (-1074 + (q : Int)) - 54 - 1 + ((55 : Nat) : Int) - 52 + 1074).toNat = p + 1022 - q by omega, Nat.min_eq_left (by omega)]
  · have hq := qd_lo hm.1 hn.2 (by omega)
    rw [nearest_eq _ (qd m n) 54 _ (by omega) (log2_eq hq.1 hq.2) (by omega)]
    unfold qrg at *
    rw [if_neg h] at *
    have ek : kp (qd m n) 54 = rn (qd m n) 2 := by unfold kp; rw [show 52 - 54 = 0 by decide, Nat.pow_zero, Nat.mul_one]
    rw [ek, show (-1074 + (p : Int) - (-1074 + (q : Int)) - 54 - 1 + ((54 : Nat) : Int) - 52 + 1074).toNat = p + 1021 - q by omega, Nat.min_eq_left (by omega)]

theorem mg_b {r : Nat} (h : 4503599627370496 ≤ r) : 4503599627370496 ≤ mg r ∧ mg r < 9007199254740992 := by
  unfold mg
  rw [if_neg (by omega)]
  omega
/-- A QUOTIENT OF TWO THAT ARE NO SUBNORMALS. -/
theorem div_eq {x y : Nat} (hx : F64 x) (hy : F64 y) (h1 : 4503599627370496 ≤ rg x) (h2 : 4503599627370496 ≤ rg y) (h3 : rg x < 9218868437227405312) (h4 : rg y < 9218868437227405312)
    (h5 : pl (rg y) ≤ pl (rg x) + 1021) (h6 : pl (rg x) + 1022 ≤ pl (rg y) + 2045) :
    floatBits .quo .f64 x y = some (double.word (sg x ^^ sg y) (qrg (pl (rg x)) (pl (rg y)) (mg (rg x)) (mg (rg y)))) := by
  show ((double.read x).quotient (double.fractionBits + 2) (double.read y)).map double.write = _
  rw [read_eq hx, read_eq hy, if_pos h3, if_pos h4]
  exact quotient_eq _ _ _ _ _ _ (mg_b h1) (mg_b h2) h5 h6

/-- A part of a whole is at most 1. -/
theorem qrg_le_one {r q : Nat} (h1 : 4503599627370496 ≤ r) (h2 : 4503599627370496 ≤ q) (h : r ≤ q) (h5 : pl q ≤ pl r + 1021) : qrg (pl r) (pl q) (mg r) (mg q) ≤ 4607182418800017408 := by
  have hm := mg_b h1
  have hn := mg_b h2
  have e1 : r = pl r * 4503599627370496 + mg r := by unfold pl mg; rw [if_neg (by omega)]; omega
  have e2 : q = pl q * 4503599627370496 + mg q := by unfold pl mg; rw [if_neg (by omega)]; omega
  generalize mg r = m at *
  generalize mg q = n at *
  generalize pl r = i at *
  generalize pl q = j at *
  have hij : i ≤ j := by omega
  unfold qrg
  by_cases hnm : n ≤ m
  · rw [if_pos hnm]
    have := qd_hi hm.2 hn.1 hnm
    have := rn_le (qd m n) 3
    by_cases hlt : i < j
    · omega
    · obtain rfl : i = j := by omega
      obtain rfl : m = n := by omega
      have eq : qd m m = 36028797018963968 := by
        unfold qd
        rw [Nat.mul_div_cancel_left _ (by omega), Nat.mul_mod_right]
        rfl
      rw [eq, show rn 36028797018963968 3 = 4503599627370496 by decide]
      omega
  · rw [if_neg hnm]
    have := qd_lo hm.1 hn.2 (by omega)
    have := rn_le (qd m n) 2
    omega
/-- Half of what is above 1. -/
theorem qrg_half {r : Nat} (h1 : 9007199254740992 ≤ r) : qrg (pl r) 1023 (mg r) 4503599627370496 = r - 4503599627370496 := by
  have hm := mg_b (show 4503599627370496 ≤ r by omega)
  have e1 : r = pl r * 4503599627370496 + mg r := by unfold pl mg; rw [if_neg (by omega)]; omega
  have e2 : 1 ≤ pl r := by unfold pl; omega
  generalize mg r = m at *
  generalize pl r = i at *
  unfold qrg
  rw [if_pos hm.1]
  have eq : qd m 4503599627370496 = 8 * m := by
    unfold qd
    rw [show m * 18014398509481984 = (m * 4) * 4503599627370496 by omega, Nat.mul_div_cancel _ (by decide), Nat.mul_mod_left]
    show 2 * (m * 4) + 0 = 8 * m
    omega
  rw [eq, rn_exact (by omega), show 8 * m / 2 ^ 3 = m by omega]
  omega
end Go.Proofs.Ythldaebinchpdaa
