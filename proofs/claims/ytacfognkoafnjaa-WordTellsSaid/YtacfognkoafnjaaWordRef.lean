/-
  deadboltref01: what its functions answer.
-/
import Derived.Test.YtacfognkoafnjaaWordBitsFn
namespace Go.Proofs.Ytacfognkoafnjaa
open Go.ChangeShapes Go.WideShapes Go.ChangeAt Go.RowKit
set_option linter.unusedVariables false

theorem rem32 (v : Int) : (wrap64 (v.tmod 4294967296 + 4294967296)).tmod 4294967296 = v % 4294967296 := by
  have h1 : -4294967296 < v.tmod 4294967296 := Int.lt_tmod_of_pos v (by omega)
  have h2 : v.tmod 4294967296 < 4294967296 := Int.tmod_lt_of_pos v (by omega)
  rw [show wrap64 (v.tmod 4294967296 + 4294967296) = v.tmod 4294967296 + 4294967296 from by unfold wrap64; omega, Int.tmod_eq_emod_of_nonneg (by omega), Int.add_emod_right]
  have h3 := Int.tmod_add_mul_tdiv v 4294967296
  omega

set_option maxHeartbeats 400000 in
theorem rKind_yes (k : Int) (w : World) (hk : 0 ≤ k ∧ k ≤ 2) : Calls Try.prog 14 #[.int .i64 k] w fun e w' => e = .returned (.bool true) ∧ w' = w := by
  obtain ⟨h1, h2⟩ := hk
  go_enter Try.func14, Try.ntmps14
  go_wp2
  go_ret
  exact ⟨rfl, rfl⟩
set_option maxHeartbeats 400000 in
theorem rKind_no (k : Int) (w : World) (hk : k < 0 ∨ 2 < k) : Calls Try.prog 14 #[.int .i64 k] w fun e w' => e = .returned (.bool false) ∧ w' = w := by
  rcases hk with h | h
  · have h1 : ¬ 0 ≤ k := by omega
    go_enter Try.func14, Try.ntmps14
    go_wp2
    go_ret
    exact ⟨rfl, rfl⟩
  · have h1 : 0 ≤ k := by omega
    have h2 : ¬ k ≤ 2 := by omega
    go_enter Try.func14, Try.ntmps14
    go_wp2
    go_ret
    exact ⟨rfl, rfl⟩
set_option maxHeartbeats 400000 in
theorem rWrap_2 (v : Int) (w : World) : Calls Try.prog 15 #[.int .i64 2, .int .i64 v] w fun e w' => e = .returned (.int .i64 (wd 2 v)) ∧ w' = w := by
  go_enter Try.func15, Try.ntmps15
  go_wp2
  go_ret
  exact ⟨rfl, rfl⟩
set_option maxHeartbeats 400000 in
theorem rWrap_1 (v : Int) (w : World) : Calls Try.prog 15 #[.int .i64 1, .int .i64 v] w fun e w' => e = .returned (.int .i64 (wd 1 v)) ∧ w' = w := by
  have hr := rem32 v
  go_enter Try.func15, Try.ntmps15
  go_wp2
  go_ret
  exact ⟨rfl, rfl⟩
set_option maxHeartbeats 400000 in
theorem rWrap_0 (v : Int) (w : World) : Calls Try.prog 15 #[.int .i64 0, .int .i64 v] w fun e w' => e = .returned (.int .i64 (wd 0 v)) ∧ w' = w := by
  have hr := rem32 v
  by_cases h : 2147483648 ≤ v % 4294967296
  · go_enter Try.func15, Try.ntmps15
    go_wp2
    go_ret
    exact ⟨ret_i64 (by unfold wd wrap32; rw [if_pos rfl]; omega), rfl⟩
  · go_enter Try.func15, Try.ntmps15
    go_wp2
    go_ret
    exact ⟨ret_i64 (by unfold wd wrap32; rw [if_pos rfl]; omega), rfl⟩
theorem rWrap_ok (k v : Int) (w : World) (hk : 0 ≤ k ∧ k ≤ 2) : Calls Try.prog 15 #[.int .i64 k, .int .i64 v] w fun e w' => e = .returned (.int .i64 (wd k v)) ∧ w' = w := by
  obtain rfl | rfl | rfl : k = 0 ∨ k = 1 ∨ k = 2 := by omega
  · exact rWrap_0 v w
  · exact rWrap_1 v w
  · exact rWrap_2 v w
set_option maxHeartbeats 400000 in
theorem rFits_ok (k v : Int) (w : World) : Calls Try.prog 11 #[.int .i64 k, .int .i64 v] w fun e w' => e = .returned (.bool (fitB k v)) ∧ w' = w := by
  by_cases hk : 0 ≤ k ∧ k ≤ 2
  · have hf : fitB k v = (wd k v == v) := by simp [fitB, hk]
    have HF := Lib.hid hf
    clear hf
    go_enter Try.func11, Try.ntmps11
    go_wp2_with fail
    refine (rKind_yes k _ hk).mono ?_
    rintro e w1 ⟨rfl, rfl⟩
    go_wp2_with fail
    refine (rWrap_ok k v _ hk).mono ?_
    rintro e w2 ⟨rfl, rfl⟩
    go_wp2_with fail
    go_ret
    rw [HF.out]
    exact ⟨rfl, rfl⟩
  · have hf : fitB k v = false := by simp [fitB, hk]
    have HF := Lib.hid hf
    clear hf
    go_enter Try.func11, Try.ntmps11
    go_wp2_with fail
    refine (rKind_no k _ (by omega)).mono ?_
    rintro e w1 ⟨rfl, rfl⟩
    go_wp2_with fail
    go_ret
    rw [HF.out]
    exact ⟨rfl, rfl⟩

theorem add2 (a b : Int) : wrap64 (IntKind.u64.wrap (IntKind.u64.wrap a + IntKind.u64.wrap b)) = wd 2 (wrap64 (a + b)) := by
  simp only [IntKind.wrap_u64, wrap64, wd]; omega
theorem add01 (k a b : Int) : wd k (wrap64 (wd k a + wd k b)) = wd k (wrap64 (a + b)) := by rw [wd_left, wd_right]
set_option maxHeartbeats 400000 in
theorem rAdd_ok (k a b : Int) (w : World) (hk : 0 ≤ k ∧ k ≤ 2) : Calls Try.prog 16 #[.int .i64 k, .int .i64 a, .int .i64 b] w fun e w' => e = .returned (.int .i64 (wd k (wrap64 (a + b)))) ∧ w' = w := by
  by_cases h2 : k = 2
  · subst h2
    go_enter Try.func16, Try.ntmps16
    go_wp2
    go_ret
    exact ⟨ret_i64 (add2 a b), rfl⟩
  · have h3 : (k == 2) = false := beq_eq_false_iff_ne.2 h2
    go_enter Try.func16, Try.ntmps16
    go_wp2_with fail
    refine (rWrap_ok k a _ hk).mono ?_
    rintro e w1 ⟨rfl, rfl⟩
    go_wp2_with fail
    refine (rWrap_ok k b _ hk).mono ?_
    rintro e w1 ⟨rfl, rfl⟩
    go_wp2_with fail
    have h4 := add01 k a b
    generalize wd k a = A at *
    generalize wd k b = B at *
    have H4 := Lib.hid h4
    clear h4
    refine (rWrap_ok k (wrap64 (A + B)) _ hk).mono ?_
    rw [H4.out]
    rintro e w1 ⟨rfl, rfl⟩
    go_wp2_with fail
    go_ret
    exact ⟨rfl, rfl⟩

theorem bitS_zero (u : Nat) : bitS 0 u = ⟨#[]⟩ := rfl
theorem bitS_succ (j u : Nat) : bitS (j + 1) u = ⟨(UInt8.ofNat (48 + u / 2 ^ j % 2) :: (bitS j u).data.toList).toArray⟩ := by
  apply WideShapes.bytes_inj
  unfold bitS bitsL
  rw [strOfNums_data, strOfNums_data, List.range_succ_eq_map, List.map_cons, List.map_cons, List.map_map, List.map_map, List.map_map]
  have h0 : UInt8.ofNat (dig (j + 1) u 0).toNat = UInt8.ofNat (48 + u / 2 ^ j % 2) := by unfold dig; rw [Int.toNat_natCast]; rfl
  rw [h0]
  congr 1
  apply List.map_congr_left
  intro q hq
  have hq : q < j := by simpa using hq
  simp only [Function.comp, dig, Nat.succ_eq_add_one]
  rw [show j + 1 - 1 - (q + 1) = j - 1 - q from by omega]
theorem bitS_len (n u : Nat) : (bitS n u).size = n := by simp [bitS, strOfNums_size, bitsL_len]
theorem cat_one (c : UInt8) (O : ByteArray) : (⟨#[c]⟩ : ByteArray) ++ O = ⟨(c :: O.data.toList).toArray⟩ := by
  apply WideShapes.bytes_inj
  simp
theorem ret_str {a b : ByteArray} (h : a = b) : Value.string a = Value.string b := by rw [h]
theorem val_u64 {a b : Int} (h : a = b) : Value.int .u64 a = Value.int .u64 b := by rw [h]
set_option maxHeartbeats 1000000 in
theorem rBits_64 (v : Int) (U : Nat) (w : World) (hU : IntKind.u64.wrap v = (U : Int)) : Calls Try.prog 13 #[.int .i64 2, .int .i64 v] w fun e w' => e = .returned (.string (bitS 64 U)) ∧ w' = w := by
  have hUl : U < 18446744073709551616 := by rw [IntKind.wrap_u64] at hU; omega
  go_enter Try.func13, Try.ntmps13
  go_wp2_with fail
  clear hU
  go_loop [6, 7, 8] (fun o u i => ∃ j : Nat, j ≤ 64 ∧ i = .int .i64 j ∧ u = .int .u64 ((U / 2 ^ j : Nat) : Int) ∧ o = .string (bitS j U)) (fun _ _ i => 64 - (intOf i).toNat)
  case atStart => exact ⟨0, Nat.zero_le _, rfl, by simp, rfl⟩
  case round =>
    obtain ⟨j, hj, rfl, rfl, rfl⟩ := hrel
    by_cases hlt : j < 64
    · have hs := bitS_succ j U
      have hd : U / 2 ^ (j + 1) = U / 2 ^ j / 2 := by rw [Nat.pow_succ, Nat.div_div_eq_div_mul]
      have hx : U / 2 ^ j < 18446744073709551616 := Nat.lt_of_le_of_lt (Nat.div_le_self _ _) hUl
      have hz : ¬ 9223372036854775807 < 1 + (bitS j U).size := by rw [bitS_len]; omega
      have HS := Lib.hid hs
      have HD := Lib.hid hd
      clear hs hd
      generalize U / 2 ^ j = x at *
      generalize bitS j U = O at *
      by_cases hp : x % 2 = 1
      · have hp1 : (((x : Int) % 2) == 1) = true := by rw [beq_iff_eq]; omega
        have HP := Lib.hid hp
        clear hp
        go_wp2_with fail
        go_round
        case rel => exact ⟨j + 1, by omega, by go_num, val_u64 (by rw [HD.out]; omega), ret_str (by rw [HS.out, HP.out]; exact cat_one 49 O)⟩
        case measure => simp [intOf]; omega
      · have hp0 : x % 2 = 0 := by omega
        have hp1 : (((x : Int) % 2) == 1) = false := by rw [beq_eq_false_iff_ne]; omega
        have HP := Lib.hid hp0
        clear hp hp0
        go_wp2_with fail
        go_round
        case rel => exact ⟨j + 1, by omega, by go_num, val_u64 (by rw [HD.out]; omega), ret_str (by rw [HS.out, HP.out]; exact cat_one 48 O)⟩
        case measure => simp [intOf]; omega
    · obtain rfl : j = 64 := by omega
      go_wp2_with fail
      go_ret
      exact ⟨rfl, rfl⟩
set_option maxHeartbeats 1000000 in
theorem rBits_32 (k v : Int) (U : Nat) (w : World) (hU : IntKind.u64.wrap v = (U : Int)) (hk : (k == 2) = false) : Calls Try.prog 13 #[.int .i64 k, .int .i64 v] w fun e w' => e = .returned (.string (bitS 32 U)) ∧ w' = w := by
  have hUl : U < 18446744073709551616 := by rw [IntKind.wrap_u64] at hU; omega
  go_enter Try.func13, Try.ntmps13
  go_wp2_with fail
  clear hU
  go_loop [6, 7, 8] (fun o u i => ∃ j : Nat, j ≤ 32 ∧ i = .int .i64 j ∧ u = .int .u64 ((U / 2 ^ j : Nat) : Int) ∧ o = .string (bitS j U)) (fun _ _ i => 32 - (intOf i).toNat)
  case atStart => exact ⟨0, Nat.zero_le _, rfl, by simp, rfl⟩
  case round =>
    obtain ⟨j, hj, rfl, rfl, rfl⟩ := hrel
    by_cases hlt : j < 32
    · have hs := bitS_succ j U
      have hd : U / 2 ^ (j + 1) = U / 2 ^ j / 2 := by rw [Nat.pow_succ, Nat.div_div_eq_div_mul]
      have hx : U / 2 ^ j < 18446744073709551616 := Nat.lt_of_le_of_lt (Nat.div_le_self _ _) hUl
      have hz : ¬ 9223372036854775807 < 1 + (bitS j U).size := by rw [bitS_len]; omega
      have HS := Lib.hid hs
      have HD := Lib.hid hd
      clear hs hd
      generalize U / 2 ^ j = x at *
      generalize bitS j U = O at *
      by_cases hp : x % 2 = 1
      · have hp1 : (((x : Int) % 2) == 1) = true := by rw [beq_iff_eq]; omega
        have HP := Lib.hid hp
        clear hp
        go_wp2_with fail
        go_round
        case rel => exact ⟨j + 1, by omega, by go_num, val_u64 (by rw [HD.out]; omega), ret_str (by rw [HS.out, HP.out]; exact cat_one 49 O)⟩
        case measure => simp [intOf]; omega
      · have hp0 : x % 2 = 0 := by omega
        have hp1 : (((x : Int) % 2) == 1) = false := by rw [beq_eq_false_iff_ne]; omega
        have HP := Lib.hid hp0
        clear hp hp0
        go_wp2_with fail
        go_round
        case rel => exact ⟨j + 1, by omega, by go_num, val_u64 (by rw [HD.out]; omega), ret_str (by rw [HS.out, HP.out]; exact cat_one 48 O)⟩
        case measure => simp [intOf]; omega
    · obtain rfl : j = 32 := by omega
      go_wp2_with fail
      go_ret
      exact ⟨rfl, rfl⟩
theorem rBits_ok (k v : Int) (w : World) : Calls Try.prog 13 #[.int .i64 k, .int .i64 v] w fun e w' => e = .returned (.string (bitS (nb k) (ub v))) ∧ w' = w := by
  by_cases h : k = 2
  · subst h; exact rBits_64 v (ub v) w (ub_is v)
  · have hn : nb k = 32 := by simp [nb, h]
    rw [hn]
    exact rBits_32 k v (ub v) w (ub_is v) (beq_eq_false_iff_ne.2 h)
end Go.Proofs.Ytacfognkoafnjaa
