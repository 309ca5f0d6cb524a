/-
  Package word: Bits, and the rotation that it leans on.
-/
import Derived.Test.YtacfognkoafnjaaWordMath
import Derived.Laws.BitsAllLaws
import Derived.Laws.BytesArg
import Derived.Deep.OwnRows
namespace Go.Proofs.Ytacfognkoafnjaa
open Go.ChangeShapes Go.WideShapes Go.ChangeAt Go.RowKit
set_option linter.unusedVariables false

/-- 64 bits, turned left by j. -/
def rotN (u j : Nat) : Nat := u / 2 ^ (64 - j) + u % 2 ^ (64 - j) * 2 ^ j
theorem rotN_zero (u : Nat) (hu : u < 18446744073709551616) : rotN u 0 = u := by
  simp [rotN]; omega
theorem rotN_32 (u : Nat) : rotN u 32 = u % 4294967296 * 4294967296 + u / 4294967296 := by
  simp [rotN]; omega
theorem rotN_lt (u j : Nat) (hu : u < 18446744073709551616) (hj : j ≤ 64) : rotN u j < 18446744073709551616 := by
  have hp : 2 ^ (64 - j) * 2 ^ j = 18446744073709551616 := by rw [← Nat.pow_add, Nat.sub_add_cancel hj]
  have h1 : u / 2 ^ (64 - j) < 2 ^ j := by
    rw [Nat.div_lt_iff_lt_mul (Nat.two_pow_pos _), Nat.mul_comm, hp]; exact hu
  have h2 : u % 2 ^ (64 - j) < 2 ^ (64 - j) := Nat.mod_lt _ (Nat.two_pow_pos _)
  have h3 : (u % 2 ^ (64 - j) + 1) * 2 ^ j ≤ 2 ^ (64 - j) * 2 ^ j := Nat.mul_le_mul_right _ h2
  rw [Nat.add_mul, hp] at h3
  unfold rotN
  omega
theorem rotN_succ (u j : Nat) (hu : u < 18446744073709551616) (hj : j < 64) : rotN u j % 9223372036854775808 * 2 + rotN u j / 9223372036854775808 = rotN u (j + 1) := by
  obtain ⟨m, hm⟩ : ∃ m, 64 - j = m + 1 := ⟨63 - j, by omega⟩
  have hm' : 64 - (j + 1) = m := by omega
  have hp : 9223372036854775808 = 2 ^ j * 2 ^ m := by
    rw [← Nat.pow_add, show j + m = 63 from by omega]
  have hA : u / 2 ^ (m + 1) = u / 2 ^ m / 2 := by rw [Nat.pow_succ, Nat.div_div_eq_div_mul]
  have hB : u % 2 ^ (m + 1) = u / 2 ^ m % 2 * 2 ^ m + u % 2 ^ m := by
    rw [Nat.pow_succ, Nat.mod_mul, Nat.add_comm, Nat.mul_comm]
  have hAl : u / 2 ^ (m + 1) < 2 ^ j := by
    rw [Nat.div_lt_iff_lt_mul (Nat.two_pow_pos _), ← Nat.pow_add, show j + (m + 1) = 64 from by omega]
    exact hu
  have hC : u % 2 ^ m < 2 ^ m := Nat.mod_lt _ (Nat.two_pow_pos _)
  unfold rotN
  rw [hm, hm', hp, hB, Nat.pow_succ 2 j]
  have hd : u / 2 ^ m = 2 * (u / 2 ^ (m + 1)) + u / 2 ^ m % 2 := by omega
  generalize u / 2 ^ (m + 1) = A at *
  generalize u / 2 ^ m % 2 = D at *
  rw [hd]
  generalize u % 2 ^ m = C at *
  have hlow : A + C * 2 ^ j < 2 ^ j * 2 ^ m := by
    have h3 : (C + 1) * 2 ^ j ≤ 2 ^ m * 2 ^ j := Nat.mul_le_mul_right _ hC
    rw [Nat.add_mul] at h3
    rw [Nat.mul_comm (2 ^ j)]
    omega
  have hx : A + (D * 2 ^ m + C) * 2 ^ j = (A + C * 2 ^ j) + (2 ^ j * 2 ^ m) * D := by
    rw [Nat.add_mul, Nat.mul_assoc D, Nat.mul_comm (2 ^ m) (2 ^ j), Nat.mul_comm D]; omega
  rw [hx, Nat.add_mul_mod_self_left, Nat.mod_eq_of_lt hlow, Nat.add_mul_div_left _ _ (by omega), Nat.div_eq_of_lt hlow, ← Nat.mul_assoc]
  omega
theorem rotN_low (u j : Nat) (hj : j < 64) : rotN u (j + 1) % 2 = u / 2 ^ (63 - j) % 2 := by
  unfold rotN
  rw [show 64 - (j + 1) = 63 - j from by omega, Nat.pow_succ, ← Nat.mul_assoc, Nat.add_mul_mod_self_right]

theorem orA (x : Nat) (hx : x < 18446744073709551616) : bits .or .u64 (IntKind.u64.wrap (↑x * 2)) (↑x / 9223372036854775808) = ((x % 9223372036854775808 * 2 + x / 9223372036854775808 : Nat) : Int) := by
  have e1 : IntKind.u64.wrap ((x : Int) * 2) = ((x % 9223372036854775808 * 2 : Nat) : Int) := by rw [IntKind.wrap_u64]; omega
  have e2 : (x : Int) / 9223372036854775808 = ((x / 9223372036854775808 : Nat) : Int) := by omega
  rw [e1, e2, u64_or_nat _ _ (by omega) (by omega), nat_join 1 _ _ (by omega) (by omega)]
theorem orB (x : Nat) (hx : x < 18446744073709551616) : bits .or .u64 (IntKind.u64.wrap (↑x * 4294967296)) (↑x / 4294967296) = ((x % 4294967296 * 4294967296 + x / 4294967296 : Nat) : Int) := by
  have e1 : IntKind.u64.wrap ((x : Int) * 4294967296) = ((x % 4294967296 * 4294967296 : Nat) : Int) := by rw [IntKind.wrap_u64]; omega
  have e2 : (x : Int) / 4294967296 = ((x / 4294967296 : Nat) : Int) := by omega
  rw [e1, e2, u64_or_nat _ _ (by omega) (by omega), nat_join 32 _ _ (by omega) (by omega)]
theorem orC (x : Nat) (hx : x < 18446744073709551616) : bits .or .u64 (↑x) (↑x / 18446744073709551616) = ((x : Nat) : Int) := by
  have e2 : (x : Int) / 18446744073709551616 = ((0 : Nat) : Int) := by omega
  rw [e2, u64_or_nat _ _ (by omega) (by omega), Nat.or_zero]
theorem ret_u64 {a b : Int} (h : a = b) : Ending.returned (.int .u64 a) = .returned (.int .u64 b) := by rw [h]

set_option maxHeartbeats 400000 in
theorem rot_1 (u j : Nat) (hu : u < 18446744073709551616) (hj : j < 64) (w : World) : Calls Try.prog 19 #[.int .u64 ((rotN u j : Nat) : Int), .int .i64 1] w fun e w' => e = .returned (.int .u64 ((rotN u (j + 1) : Nat) : Int)) ∧ w' = w := by
  have e1 : bits .and .u64 1 63 = 1 := by decide +kernel
  have hx := rotN_lt u j hu (by omega)
  have hr := rotN_succ u j hu hj
  generalize rotN u j = x at *
  have HR := Lib.hid hr
  clear hr
  go_enter Try.func19, Try.ntmps19
  go_wp2
  go_ret
  exact ⟨ret_u64 ((orA x hx).trans (by rw [HR.out])), rfl⟩
set_option maxHeartbeats 400000 in
theorem rot_32 (u : Nat) (hu : u < 18446744073709551616) (w : World) : Calls Try.prog 19 #[.int .u64 ((u : Nat) : Int), .int .i64 32] w fun e w' => e = .returned (.int .u64 ((rotN u 32 : Nat) : Int)) ∧ w' = w := by
  have e1 : bits .and .u64 32 63 = 32 := by decide +kernel
  go_enter Try.func19, Try.ntmps19
  go_wp2
  go_ret
  exact ⟨ret_u64 ((orB u hu).trans (by rw [rotN_32])), rfl⟩
set_option maxHeartbeats 400000 in
theorem rot_0 (u : Nat) (hu : u < 18446744073709551616) (w : World) : Calls Try.prog 19 #[.int .u64 ((u : Nat) : Int), .int .i64 0] w fun e w' => e = .returned (.int .u64 ((rotN u 0 : Nat) : Int)) ∧ w' = w := by
  have e1 : bits .and .u64 0 63 = 0 := by decide +kernel
  go_enter Try.func19, Try.ntmps19
  go_wp2
  go_ret
  exact ⟨ret_u64 ((orC u hu).trans (by rw [rotN_zero u hu])), rfl⟩
/-- The digit at place q (the highest first) of n bits of u; all of them. -/
def dig (n u q : Nat) : Int := ((48 + u / 2 ^ (n - 1 - q) % 2 : Nat) : Int)
def bitsL (n u : Nat) : List Int := (List.range n).map (dig n u)
def bitS (n u : Nat) : ByteArray := strOfNums (bitsL n u)
theorem bitsL_len (n u : Nat) : (bitsL n u).length = n := by simp [bitsL]
theorem bitsL_get (n u q : Nat) (h : q < n) : (bitsL n u).getD q 0 = dig n u q := by
  simp [bitsL, List.getD, h]
theorem u8dig (x : Nat) (hx : x < 18446744073709551616) : (48 + bits .and .u64 ↑x 1) % 256 = ((48 + x % 2 : Nat) : Int) := by
  rw [show (1 : Int) = ((1 : Nat) : Int) from rfl, u64_and_nat _ _ hx (by omega), nat_mask1]
  omega
theorem Try.info5 : (Try.prog.info? 5).map (fun i => (i.zero, i.size, i.bytes)) = some (some (.int .u8 0), 1, 1) := by kernel_rfl

/-- What the row of digits holds behind j rounds. -/
def rowF (n U j q : Nat) : Value := if q < j then .int .u8 (dig n U q) else .int .u8 0
theorem rowF_zero (n U q : Nat) : rowF n U 0 q = .int .u8 0 := by simp [rowF]
theorem rowF_succ (n U j r : Nat) (hU : U < 18446744073709551616) (hn : n ≤ 64) (hj : j < n) (hr : r = 64 - n + j) {wr : World} {b t : Nat} (h : wr.rowIs b t n (rowF n U j)) :
    (wr.setCell ⟨b, j, none⟩ (.int .u8 ((48 + bits .and .u64 ((rotN U (r + 1) : Nat) : Int) 1) % 256))).rowIs b t n (rowF n U (j + 1)) := by
  rw [u8dig _ (rotN_lt _ _ hU (by omega)), rotN_low _ _ (by omega), show 63 - r = n - 1 - j from by omega]
  refine (h.set j _).congr fun q hq => ?_
  by_cases e : q = j
  · subst e; simp [rowF, dig]
  · by_cases e2 : q < j
    · simp [rowF, e, e2, show q < j + 1 from by omega]
    · simp [rowF, e, e2, show ¬ q < j + 1 from by omega]
set_option maxHeartbeats 1000000 in
theorem Bits_0 (v : Int) (U : Nat) (w : World) (hv : -9223372036854775808 ≤ v ∧ v ≤ 9223372036854775807) (hf : fitB 0 v = true) (hU : IntKind.u64.wrap v = (U : Int)) :
    Calls Try.prog 9 #[.int .i64 0, .int .i64 v] w fun e w' => e = .returned (.tuple #[.string (bitS 32 U), .int .i64 0]) ∧ Gr w w' := by
  have hUl : U < 18446744073709551616 := by rw [IntKind.wrap_u64] at hU; omega
  have c1 := fun w => Lib.hid (Fits_is hf hv w)
  have hmk : ∀ W : World, (Instr.makeSlice 40 (.int .i64 32) (.int .i64 32)).run Try.prog W = .ok (.slice (some ⟨W.heap.size, 0, none⟩) 32 32) (W.alloc (.cells (madeCells #[.int .u8 0] 32) 5)) :=
    fun W => run_make_row' 40 5 (.int .u8 0) 1 Try.underlying40 Try.info5 rfl .i64 .i64 32 (by omega) (by omega) W
  clear hf
  go_enter Try.func9, Try.ntmps9
  go_wp2_with fail
  refine (c1 _).out.mono ?_
  rintro e w1 ⟨rfl, hb1⟩
  clear c1
  go_wp2_with fail
  refine (shapeOf_0 _).mono ?_
  rintro e w2 ⟨rfl, hb2⟩
  go_wp2_with fail
  refine (rot_32 U hUl _).mono ?_
  rintro e w3 ⟨rfl, rfl⟩
  clear hmk hU
  go_wp2_with fail
  go_loopw [8, 27] (fun t i wr => ∃ j : Nat, j ≤ 32 ∧ i = .int .i64 j ∧ t = .int .u64 ((rotN U (32 + j) : Nat) : Int) ∧ wr.rowIs (w2.heap.size + 1) 5 32 (rowF 32 U j) ∧ Gr w wr) (fun _ i _ => 32 - (intOf i).toNat)
  case atStart =>
    refine ⟨0, Nat.zero_le _, rfl, rfl, ?_, ((hb1.trans hb2).al _).al _⟩
    have h := (w2.alloc (.cells #[.int .i64 32, .bool true] 37)).rowIs_made (.int .u8 0) 32 5
    simp only [World.size_alloc] at h
    exact h.congr fun q _ => (rowF_zero _ _ _).symm
  case round =>
    obtain ⟨j, hj, rfl, rfl, hrow, hg⟩ := hrel
    by_cases hlt : j < 32
    · have hcell := hrow.cell hlt
      have hfz := hrow.frozen j
      have HR := Lib.hid hrow
      clear hrow
      go_wp2_with fail
      refine (rot_1 U (32 + j) hUl (by omega) _).mono ?_
      rintro e w4 ⟨rfl, rfl⟩
      go_wp2_with fail
      go_roundw
      case rel => exact ⟨j + 1, by omega, by go_num, rfl, rowF_succ 32 U j (32 + j) hUl (by omega) hlt (by omega) HR.out, hg.st (by have := hb1.size; have := hb2.size; show _ ≤ w2.heap.size + 1; omega) _⟩
      case measure => simp [intOf]; omega
    · obtain rfl : j = 32 := by omega
      have hconv := run_convert_bytes_arg (P := Try.prog) wr 40 5 Try.underlying40 Try.underlying5 (w2.heap.size + 1) 0 32 32 (bitsL 32 U) (bitsL_len _ _)
        (fun q hq => by rw [Nat.zero_add, bitsL_get _ _ _ hq, hrow.cell hq]; simp [rowF, hq]) 9 Try.underlying9
      go_wp2_with fail
      go_ret2
      exact ⟨rfl, hg⟩
set_option maxHeartbeats 1000000 in
theorem Bits_1 (v : Int) (U : Nat) (w : World) (hv : -9223372036854775808 ≤ v ∧ v ≤ 9223372036854775807) (hf : fitB 1 v = true) (hU : IntKind.u64.wrap v = (U : Int)) :
    Calls Try.prog 9 #[.int .i64 1, .int .i64 v] w fun e w' => e = .returned (.tuple #[.string (bitS 32 U), .int .i64 0]) ∧ Gr w w' := by
  have hUl : U < 18446744073709551616 := by rw [IntKind.wrap_u64] at hU; omega
  have c1 := fun w => Lib.hid (Fits_is hf hv w)
  have hmk : ∀ W : World, (Instr.makeSlice 40 (.int .i64 32) (.int .i64 32)).run Try.prog W = .ok (.slice (some ⟨W.heap.size, 0, none⟩) 32 32) (W.alloc (.cells (madeCells #[.int .u8 0] 32) 5)) :=
    fun W => run_make_row' 40 5 (.int .u8 0) 1 Try.underlying40 Try.info5 rfl .i64 .i64 32 (by omega) (by omega) W
  clear hf
  go_enter Try.func9, Try.ntmps9
  go_wp2_with fail
  refine (c1 _).out.mono ?_
  rintro e w1 ⟨rfl, hb1⟩
  clear c1
  go_wp2_with fail
  refine (shapeOf_1 _).mono ?_
  rintro e w2 ⟨rfl, hb2⟩
  go_wp2_with fail
  refine (rot_32 U hUl _).mono ?_
  rintro e w3 ⟨rfl, rfl⟩
  clear hmk hU
  go_wp2_with fail
  go_loopw [8, 27] (fun t i wr => ∃ j : Nat, j ≤ 32 ∧ i = .int .i64 j ∧ t = .int .u64 ((rotN U (32 + j) : Nat) : Int) ∧ wr.rowIs (w2.heap.size + 1) 5 32 (rowF 32 U j) ∧ Gr w wr) (fun _ i _ => 32 - (intOf i).toNat)
  case atStart =>
    refine ⟨0, Nat.zero_le _, rfl, rfl, ?_, ((hb1.trans hb2).al _).al _⟩
    have h := (w2.alloc (.cells #[.int .i64 32, .bool false] 37)).rowIs_made (.int .u8 0) 32 5
    simp only [World.size_alloc] at h
    exact h.congr fun q _ => (rowF_zero _ _ _).symm
  case round =>
    obtain ⟨j, hj, rfl, rfl, hrow, hg⟩ := hrel
    by_cases hlt : j < 32
    · have hcell := hrow.cell hlt
      have hfz := hrow.frozen j
      have HR := Lib.hid hrow
      clear hrow
      go_wp2_with fail
      refine (rot_1 U (32 + j) hUl (by omega) _).mono ?_
      rintro e w4 ⟨rfl, rfl⟩
      go_wp2_with fail
      go_roundw
      case rel => exact ⟨j + 1, by omega, by go_num, rfl, rowF_succ 32 U j (32 + j) hUl (by omega) hlt (by omega) HR.out, hg.st (by have := hb1.size; have := hb2.size; show _ ≤ w2.heap.size + 1; omega) _⟩
      case measure => simp [intOf]; omega
    · obtain rfl : j = 32 := by omega
      have hconv := run_convert_bytes_arg (P := Try.prog) wr 40 5 Try.underlying40 Try.underlying5 (w2.heap.size + 1) 0 32 32 (bitsL 32 U) (bitsL_len _ _)
        (fun q hq => by rw [Nat.zero_add, bitsL_get _ _ _ hq, hrow.cell hq]; simp [rowF, hq]) 9 Try.underlying9
      go_wp2_with fail
      go_ret2
      exact ⟨rfl, hg⟩
set_option maxHeartbeats 1000000 in
theorem Bits_2 (v : Int) (U : Nat) (w : World) (hv : -9223372036854775808 ≤ v ∧ v ≤ 9223372036854775807) (hf : fitB 2 v = true) (hU : IntKind.u64.wrap v = (U : Int)) :
    Calls Try.prog 9 #[.int .i64 2, .int .i64 v] w fun e w' => e = .returned (.tuple #[.string (bitS 64 U), .int .i64 0]) ∧ Gr w w' := by
  have hUl : U < 18446744073709551616 := by rw [IntKind.wrap_u64] at hU; omega
  have c1 := fun w => Lib.hid (Fits_is hf hv w)
  have hmk : ∀ W : World, (Instr.makeSlice 40 (.int .i64 64) (.int .i64 64)).run Try.prog W = .ok (.slice (some ⟨W.heap.size, 0, none⟩) 64 64) (W.alloc (.cells (madeCells #[.int .u8 0] 64) 5)) :=
    fun W => run_make_row' 40 5 (.int .u8 0) 1 Try.underlying40 Try.info5 rfl .i64 .i64 64 (by omega) (by omega) W
  clear hf
  go_enter Try.func9, Try.ntmps9
  go_wp2_with fail
  refine (c1 _).out.mono ?_
  rintro e w1 ⟨rfl, hb1⟩
  clear c1
  go_wp2_with fail
  refine (shapeOf_2 _).mono ?_
  rintro e w2 ⟨rfl, hb2⟩
  go_wp2_with fail
  refine (rot_0 U hUl _).mono ?_
  rintro e w3 ⟨rfl, rfl⟩
  clear hmk hU
  go_wp2_with fail
  go_loopw [8, 27] (fun t i wr => ∃ j : Nat, j ≤ 64 ∧ i = .int .i64 j ∧ t = .int .u64 ((rotN U j : Nat) : Int) ∧ wr.rowIs (w2.heap.size + 1) 5 64 (rowF 64 U j) ∧ Gr w wr) (fun _ i _ => 64 - (intOf i).toNat)
  case atStart =>
    refine ⟨0, Nat.zero_le _, rfl, rfl, ?_, ((hb1.trans hb2).al _).al _⟩
    have h := (w2.alloc (.cells #[.int .i64 64, .bool true] 37)).rowIs_made (.int .u8 0) 64 5
    simp only [World.size_alloc] at h
    exact h.congr fun q _ => (rowF_zero _ _ _).symm
  case round =>
    obtain ⟨j, hj, rfl, rfl, hrow, hg⟩ := hrel
    by_cases hlt : j < 64
    · have hcell := hrow.cell hlt
      have hfz := hrow.frozen j
      have HR := Lib.hid hrow
      clear hrow
      go_wp2_with fail
      refine (rot_1 U j hUl (by omega) _).mono ?_
      rintro e w4 ⟨rfl, rfl⟩
      go_wp2_with fail
      go_roundw
      case rel => exact ⟨j + 1, by omega, by go_num, rfl, rowF_succ 64 U j j hUl (by omega) hlt (by omega) HR.out, hg.st (by have := hb1.size; have := hb2.size; show _ ≤ w2.heap.size + 1; omega) _⟩
      case measure => simp [intOf]; omega
    · obtain rfl : j = 64 := by omega
      have hconv := run_convert_bytes_arg (P := Try.prog) wr 40 5 Try.underlying40 Try.underlying5 (w2.heap.size + 1) 0 64 64 (bitsL 64 U) (bitsL_len _ _)
        (fun q hq => by rw [Nat.zero_add, bitsL_get _ _ _ hq, hrow.cell hq]; simp [rowF, hq]) 9 Try.underlying9
      go_wp2_with fail
      go_ret2
      exact ⟨rfl, hg⟩
set_option maxHeartbeats 400000 in
theorem Bits_no (k v : Int) (w : World) (hv : -9223372036854775808 ≤ v ∧ v ≤ 9223372036854775807) (hf : fitB k v = false) :
    Calls Try.prog 9 #[.int .i64 k, .int .i64 v] w fun e w' => e = .returned (.tuple #[.string ⟨#[]⟩, .int .i64 1]) ∧ Gr w w' := by
  have c1 := fun w => Lib.hid (Fits_is hf hv w)
  clear hf
  go_enter Try.func9, Try.ntmps9
  go_wp2_with fail
  refine (c1 _).out.mono ?_
  rintro e w1 ⟨rfl, hb1⟩
  clear c1
  go_wp2_with fail
  go_ret2
  exact ⟨rfl, hb1⟩

/-- How many bits a kind has; a number without its sign. -/
def nb (k : Int) : Nat := if k = 2 then 64 else 32
def ub (v : Int) : Nat := (v % 18446744073709551616).toNat
theorem ub_is (v : Int) : IntKind.u64.wrap v = (ub v : Int) := by rw [IntKind.wrap_u64, ub]; omega
theorem Bits_ok (k v : Int) (w : World) (hv : -9223372036854775808 ≤ v ∧ v ≤ 9223372036854775807) (hf : fitB k v = true) :
    Calls Try.prog 9 #[.int .i64 k, .int .i64 v] w fun e w' => e = .returned (.tuple #[.string (bitS (nb k) (ub v)), .int .i64 0]) ∧ Gr w w' := by
  have hk : 0 ≤ k ∧ k ≤ 2 := by
    simp only [fitB, Bool.and_eq_true, decide_eq_true_eq] at hf
    exact hf.1
  obtain rfl | rfl | rfl : k = 0 ∨ k = 1 ∨ k = 2 := by omega
  · exact Bits_0 v (ub v) w hv hf (ub_is v)
  · exact Bits_1 v (ub v) w hv hf (ub_is v)
  · exact Bits_2 v (ub v) w hv hf (ub_is v)
end Go.Proofs.Ytacfognkoafnjaa
