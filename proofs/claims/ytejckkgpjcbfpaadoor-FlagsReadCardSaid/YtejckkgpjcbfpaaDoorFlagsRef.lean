/-
  deadboltref03: what its calls answer.
-/
import Derived.Test.YtejckkgpjcbfpaaDoorFlagsParse
import Derived.Laws.BytesArg
namespace Go.Proofs.YtejckkgpjcbfpaaDoor
open Go.ChangeShapes Go.WideShapes Go.ChangeAt Go.RowKit
set_option linter.unusedVariables false

set_option maxHeartbeats 400000 in
theorem rbit_ok (is : Bool) (b : Int) (w : World) : Calls Tryd.prog 24 #[.bool is, .int .i64 b] w fun e w' => e = .returned (.int .i64 (bitI is b)) ∧ w' = w := by
  cases is
  · go_enter Tryd.func24, Tryd.ntmps24
    go_wp2
    go_ret
    exact ⟨rfl, rfl⟩
  · go_enter Tryd.func24, Tryd.ntmps24
    go_wp2
    go_ret
    exact ⟨rfl, rfl⟩
set_option maxHeartbeats 400000 in
theorem rsign_ok (is : Bool) (l : ByteArray) (w : World) : Calls Tryd.prog 25 #[.bool is, .string l] w fun e w' => e = .returned (.string (letS is l)) ∧ w' = w := by
  cases is
  · go_enter Tryd.func25, Tryd.ntmps25
    go_wp2
    go_ret
    exact ⟨rfl, rfl⟩
  · go_enter Tryd.func25, Tryd.ntmps25
    go_wp2
    go_ret
    exact ⟨rfl, rfl⟩
set_option maxHeartbeats 1000000 in
theorem rWord_yes (v : Int) (h : 0 ≤ v ∧ v < 2147483648) (w : World) : Calls Tryd.prog 14 #[.int .i64 v] w fun e w' => e = .returned (.bool true) ∧ w' = w := by
  obtain ⟨h1, h2⟩ := h
  go_enter Tryd.func14, Tryd.ntmps14
  go_wp2
  go_ret
  exact ⟨rfl, rfl⟩
set_option maxHeartbeats 1000000 in
theorem rWord_no (v : Int) (h : ¬ (0 ≤ v ∧ v < 2147483648)) (w : World) : Calls Tryd.prog 14 #[.int .i64 v] w fun e w' => e = .returned (.bool false) ∧ w' = w := by
  by_cases h0 : 0 ≤ v
  · have h1 : ¬ v < 2147483648 := by omega
    clear h
    go_enter Tryd.func14, Tryd.ntmps14
    go_wp2
    go_ret
    exact ⟨rfl, rfl⟩
  · clear h
    go_enter Tryd.func14, Tryd.ntmps14
    go_wp2
    go_ret
    exact ⟨rfl, rfl⟩
set_option maxHeartbeats 1000000 in
theorem rMay_yes (a b c : Bool) (n : Int) (h : 0 ≤ n ∧ n < 268435456) (w : World) : Calls Tryd.prog 12 #[fl a b c n] w fun e w' => e = .returned (.bool true) ∧ Gr w w' := by
  obtain ⟨h1, h2⟩ := h
  go_enter Tryd.func12, Tryd.ntmps12
  go_wp2_with fail
  go_ret
  exact ⟨rfl, (Gr.refl w).al _⟩
set_option maxHeartbeats 1000000 in
theorem rMay_no (a b c : Bool) (n : Int) (h : ¬ (0 ≤ n ∧ n < 268435456)) (w : World) : Calls Tryd.prog 12 #[fl a b c n] w fun e w' => e = .returned (.bool false) ∧ Gr w w' := by
  by_cases h0 : 0 ≤ n
  · have h1 : ¬ n < 268435456 := by omega
    clear h
    go_enter Tryd.func12, Tryd.ntmps12
    go_wp2_with fail
    go_ret
    exact ⟨rfl, (Gr.refl w).al _⟩
  · clear h
    go_enter Tryd.func12, Tryd.ntmps12
    go_wp2_with fail
    go_ret
    exact ⟨rfl, (Gr.refl w).al _⟩
theorem rsum (a b c : Bool) (n : Int) (h : 0 ≤ n ∧ n < 268435456) : wrap64 (wrap64 (wrap64 (bitI a 1 + bitI b 2) + bitI c 4) + wrap64 (8 * n)) = pw a b c n := by
  unfold pw wrap64
  cases a <;> cases b <;> cases c <;> simp [bitI, b1] <;> omega
set_option maxHeartbeats 1000000 in
theorem rPack_ok (a b c : Bool) (n : Int) (h : 0 ≤ n ∧ n < 268435456) (w : World) : Calls Tryd.prog 13 #[fl a b c n] w fun e w' => e = .returned (.int .i64 (pw a b c n)) ∧ Gr w w' := by
  have hs := Lib.hid (rsum a b c n h)
  clear h
  go_enter Tryd.func13, Tryd.ntmps13
  go_wp2_with fail
  go_quiet ((go_at_call 24; exact Calls.quiet_of_same (rbit_ok _ _ _)))
  go_wp2_with fail
  go_ret
  exact ⟨congrArg _ (congrArg _ hs.out), ((Gr.refl _).al _).drN _⟩
theorem runp1 (a b c : Bool) (n : Int) (h : 0 ≤ n ∧ n < 268435456) : ((pw a b c n).tmod 2 == 1) = a := by
  have h1 := pw_nat a b c n h
  obtain ⟨x, hx, hl⟩ := h1
  rw [hx, Int.tmod_eq_emod_of_nonneg (by omega)]
  unfold pw at hx
  cases a <;> cases b <;> cases c <;> simp [b1] at hx <;> simp <;> omega
theorem runp2 (a b c : Bool) (n : Int) (h : 0 ≤ n ∧ n < 268435456) : ((wrap64 ((pw a b c n).tdiv 2)).tmod 2 == 1) = b := by
  obtain ⟨x, hx, hl⟩ := pw_nat a b c n h
  rw [hx, Int.tdiv_eq_ediv_of_nonneg (by omega), show wrap64 ((x : Int) / 2) = (x : Int) / 2 from by unfold wrap64; omega, Int.tmod_eq_emod_of_nonneg (by omega)]
  unfold pw at hx
  cases a <;> cases b <;> cases c <;> simp [b1] at hx <;> simp <;> omega
theorem runp4 (a b c : Bool) (n : Int) (h : 0 ≤ n ∧ n < 268435456) : ((wrap64 ((pw a b c n).tdiv 4)).tmod 2 == 1) = c := by
  obtain ⟨x, hx, hl⟩ := pw_nat a b c n h
  rw [hx, Int.tdiv_eq_ediv_of_nonneg (by omega), show wrap64 ((x : Int) / 4) = (x : Int) / 4 from by unfold wrap64; omega, Int.tmod_eq_emod_of_nonneg (by omega)]
  unfold pw at hx
  cases a <;> cases b <;> cases c <;> simp [b1] at hx <;> simp <;> omega
set_option maxHeartbeats 1000000 in
theorem rUnpack_ok (a b c : Bool) (n : Int) (h : 0 ≤ n ∧ n < 268435456) (w : World) : Calls Tryd.prog 15 #[.int .i64 (pw a b c n)] w fun e w' => e = .returned (fl a b c n) ∧ Gr w w' := by
  have h1 := Lib.hid (runp1 a b c n h)
  have h2 := Lib.hid (runp2 a b c n h)
  have h3 := Lib.hid (runp4 a b c n h)
  have h4 := Lib.hid (div8 a b c n h)
  generalize pw a b c n = v at *
  go_enter Tryd.func15, Tryd.ntmps15
  go_wp2
  refine bodyPost_ret (v := fl (v.tmod 2 == 1) ((wrap64 (v.tdiv 2)).tmod 2 == 1) ((wrap64 (v.tdiv 4)).tmod 2 == 1) (wrap64 (v.tdiv 8))) (by simp [results, Tryd.results15, go_sem]) rfl ⟨?_, (Gr.refl _).al _⟩
  exact congrArg _ (fl_eq h1.out h2.out h3.out h4.out)
theorem dgs_small {k : Int} (h : 0 ≤ k ∧ k < 10) : strOfNums [48 + k] = dgs k := by
  apply WideShapes.bytes_inj
  have e : (dgs k).data.toList = Lib.decDigits k.toNat := rfl
  rw [strOfNums_data, e, Lib.decDigits_one (by omega)]
  show [UInt8.ofNat (48 + k).toNat] = _
  rw [show (48 + k).toNat = 48 + k.toNat from by omega]
theorem dgs_big {k : Int} (h : 10 ≤ k) : dgs (k / 10) ++ dgs (k % 10) = dgs k := by
  apply WideShapes.bytes_inj
  have e : ∀ k, (dgs k).data.toList = Lib.decDigits k.toNat := fun _ => rfl
  rw [ByteArray.data_append, Array.toList_append, e, e, e]
  rw [Lib.decDigits_one (i := (k % 10).toNat) (by omega)]
  conv => rhs; rw [Lib.decDigits]
  rw [dif_neg (by omega)]
  rw [show (k / 10).toNat = k.toNat / 10 from by omega, show (k % 10).toNat = k.toNat % 10 from by omega]
set_option maxHeartbeats 1000000 in
theorem rdig_small (k : Int) (h : 0 ≤ k ∧ k < 10) (w : World) : Calls Tryd.prog 26 #[.int .i64 k] w fun e w' => e = .returned (.string (dgs k)) ∧ Gr w w' := by
  have hd := dgs_small h
  obtain ⟨h1, h2⟩ := h
  have hconv := run_convert_bytes_arg (P := Tryd.prog) (w.alloc (.cells #[.int .u8 (48 + k)] 5)) 51 5 Tryd.underlying51 Tryd.underlying5 w.heap.size 0 1 1 [48 + k] rfl
    (fun q hq => by obtain rfl : q = 0 := by omega
                    simp) 9 Tryd.underlying9
  rw [hd] at hconv
  clear hd
  go_enter Tryd.func26, Tryd.ntmps26
  go_wp2_with fail
  go_ret
  exact ⟨rfl, (Gr.refl w).al _⟩
set_option maxHeartbeats 1000000 in
theorem rdig_step (k : Int) (h : 10 ≤ k ∧ k < 268435456) (w : World) (hc : ∀ w, Calls Tryd.prog 26 #[.int .i64 (k / 10)] w fun e w' => e = .returned (.string (dgs (k / 10))) ∧ Gr w w') : Calls Tryd.prog 26 #[.int .i64 k] w fun e w' => e = .returned (.string (dgs k)) ∧ Gr w w' := by
  have c1 := fun w => Lib.hid (hc w)
  have c2 := fun w => Lib.hid (rdig_small (k % 10) (by omega) w)
  have HD := Lib.hid (dgs_big h.1)
  have s1 := dgs_le (n := k / 10) (by omega)
  have s2 := dgs_le (n := k % 10) (by omega)
  obtain ⟨h1, h2⟩ := h
  clear hc
  have hq : wrap64 (k.tdiv 10) = k / 10 := by rw [Int.tdiv_eq_ediv_of_nonneg (by omega)]; unfold wrap64; omega
  have hm : k.tmod 10 = k % 10 := Int.tmod_eq_emod_of_nonneg (by omega)
  generalize dgs (k / 10) = A at *
  generalize dgs (k % 10) = B at *
  generalize dgs k = D at *
  have hz : ¬ 9223372036854775807 < A.size + B.size := by omega
  clear s1 s2
  have g : ¬ k < 10 := by omega
  go_enter Tryd.func26, Tryd.ntmps26
  go_wp2_with fail
  refine (c1 _).out.mono ?_
  rintro e w1 ⟨rfl, hb1⟩
  go_wp2_with fail
  refine (c2 _).out.mono ?_
  rintro e w2 ⟨rfl, hb2⟩
  go_wp2_with fail
  go_ret
  exact ⟨by rw [← HD.out]; rfl, hb1.trans hb2⟩
theorem rdig_ok (k : Int) (h : 0 ≤ k ∧ k < 268435456) (w : World) : Calls Tryd.prog 26 #[.int .i64 k] w fun e w' => e = .returned (.string (dgs k)) ∧ Gr w w' := by
  obtain ⟨u, rfl⟩ : ∃ u : Nat, k = (u : Int) := ⟨k.toNat, by omega⟩
  induction u using Nat.strongRecOn generalizing w with
  | ind u ih =>
    by_cases hs : u < 10
    · exact rdig_small _ (by omega) w
    · exact rdig_step _ (by omega) w (fun w => by
        have := ih (u / 10) (by omega) w (by omega)
        rw [show ((u / 10 : Nat) : Int) = (u : Int) / 10 from by omega] at this
        exact this)
set_option maxHeartbeats 2000000 in
theorem rText_ok (a b c : Bool) (n : Int) (h : 0 ≤ n ∧ n < 268435456) (w : World) : Calls Tryd.prog 16 #[.int .i64 (pw a b c n)] w fun e w' => e = .returned (.string (tx a b c n)) ∧ Gr w w' := by
  have c1 := fun w => Lib.hid (rUnpack_ok a b c n h w)
  have c2 := fun w => Lib.hid (rdig_ok n h w)
  have l0 := fun w => Lib.hid (rsign_ok a ⟨#[76]⟩ w)
  have l1 := fun w => Lib.hid (rsign_ok b ⟨#[87]⟩ w)
  have l2 := fun w => Lib.hid (rsign_ok c ⟨#[83]⟩ w)
  have s0 := letS_size a 76
  have s1 := letS_size b 87
  have s2 := letS_size c 83
  have s3 := dgs_le h
  have HT := Lib.hid (show letS a ⟨#[76]⟩ ++ letS b ⟨#[87]⟩ ++ letS c ⟨#[83]⟩ ++ dgs n = tx a b c n from rfl)
  clear h
  generalize pw a b c n = v at *
  generalize tx a b c n = T at *
  generalize dgs n = D at *
  generalize letS a ⟨#[76]⟩ = A at *
  generalize letS b ⟨#[87]⟩ = B at *
  generalize letS c ⟨#[83]⟩ = C at *
  have k1 : ¬ 9223372036854775807 < A.size + B.size := by omega
  have k4 : ¬ 9223372036854775807 < A.size + B.size + C.size := by omega
  have k5 : ¬ 9223372036854775807 < A.size + B.size + C.size + D.size := by omega
  clear s0 s1 s2 s3
  go_enter Tryd.func16, Tryd.ntmps16
  go_wp2_with fail
  refine (c1 _).out.mono ?_
  rintro e w1 ⟨rfl, hb1⟩
  go_wp2_with fail
  have F := FlAt.new w1 a b c n 23
  have G := hb1.al (.cells #[.bool a, .bool b, .bool c, .int .i64 n] 23)
  obtain ⟨K, hK⟩ : ∃ k, w1.heap.size = k := ⟨_, rfl⟩
  obtain ⟨W, hW⟩ : ∃ W, w1.alloc (.cells #[.bool a, .bool b, .bool c, .int .i64 n] 23) = W := ⟨_, rfl⟩
  rw [hK] at F
  rw [hW] at F G
  simp only [hK, hW]
  clear hK hW hb1
  go_region_held3 (fun w' => w'.cell? ⟨K, 0, none⟩ = some (.bool a) ∧ w'.cell? ⟨K, 1, none⟩ = some (.bool b) ∧ w'.cell? ⟨K, 2, none⟩ = some (.bool c) ∧ w'.cell? ⟨K, 3, none⟩ = some (.int .i64 n) ∧ K < w'.heap.size ∧ Gr w w') (first | exact ⟨F.1, F.2.1, F.2.2.1, F.2.2.2.1, F.2.2.2.2, G.dr⟩ | (go_split_ands; exact ⟨(hb2.cell (p := ⟨K, 0, none⟩) (by assumption)).trans (by assumption), (hb2.cell (p := ⟨K, 1, none⟩) (by assumption)).trans (by assumption), (hb2.cell (p := ⟨K, 2, none⟩) (by assumption)).trans (by assumption), (hb2.cell (p := ⟨K, 3, none⟩) (by assumption)).trans (by assumption), Nat.lt_of_lt_of_le (by assumption) hb2.size, Gr.trans (by assumption) hb2⟩))
    (first
      | (go_at_call 26; refine (c2 _).out.mono ?_; rintro ee w2 ⟨rfl, hb2⟩)
      | (go_at_call 25; refine (l0 _).out.mono ?_; rintro ee w2 ⟨rfl, rfl⟩)
      | (go_at_call 25; refine (l1 _).out.mono ?_; rintro ee w2 ⟨rfl, rfl⟩)
      | (go_at_call 25; refine (l2 _).out.mono ?_; rintro ee w2 ⟨rfl, rfl⟩))
  rename_i hH
  obtain ⟨q0, q1, q2, q3, q4, q5⟩ := hH
  go_wp2_with fail
  go_ret
  exact ⟨by rw [← HT.out]; rfl, q5⟩
theorem run_waiters (a b c : Bool) (n : Int) (w : World) : (Instr.field 23 (fl a b c n) 3).run Tryd.prog w = .ok (.int .i64 n) w := by
  unfold Instr.field fl
  simp [go_sem, run_underlying Tryd.underlying23, asAgg, part]
set_option maxHeartbeats 1000000 in
theorem rOver_ok (a b c : Bool) (n d : Int) (h : 0 ≤ n ∧ n < 268435456) (hd : -9223372036854775808 ≤ d ∧ d ≤ 9223372036854775807) (w : World) : Calls Tryd.prog 17 #[.int .i64 (pw a b c n), .int .i64 d] w fun e w' => e = .returned (.bool (decide (¬ (0 ≤ n + d ∧ n + d < 268435456)))) ∧ Gr w w' := by
  have c1 := fun w => Lib.hid (rUnpack_ok a b c n h w)
  obtain ⟨h1, h2⟩ := h
  generalize pw a b c n = v at *
  have e1 : wrap64 (268435455 - n) = 268435455 - n := by unfold wrap64; omega
  have e2 : wrap64 (0 - n) = 0 - n := by unfold wrap64; omega
  have hf := fun w => run_waiters a b c n w
  by_cases g1 : 268435455 - n < d
  · have hB : decide (¬ (0 ≤ n + d ∧ n + d < 268435456)) = true := decide_eq_true (by omega)
    rw [hB]
    go_enter Tryd.func17, Tryd.ntmps17
    go_wp2_with fail
    refine (c1 _).out.mono ?_
    rintro e w1 ⟨rfl, hb1⟩
    go_wp2_with fail
    go_ret
    exact ⟨rfl, hb1⟩
  · by_cases g2 : d < 0 - n
    · have hB : decide (¬ (0 ≤ n + d ∧ n + d < 268435456)) = true := decide_eq_true (by omega)
      rw [hB]
      go_enter Tryd.func17, Tryd.ntmps17
      go_wp2_with fail
      refine (c1 _).out.mono ?_
      rintro e w1 ⟨rfl, hb1⟩
      go_wp2_with fail
      go_ret
      exact ⟨congrArg (fun b => Ending.returned (Value.bool b)) (show (decide (268435455 - n < d) || decide (d < -n)) = true from by simp; omega), hb1⟩
    · have hB : decide (¬ (0 ≤ n + d ∧ n + d < 268435456)) = false := decide_eq_false (by omega)
      rw [hB]
      go_enter Tryd.func17, Tryd.ntmps17
      go_wp2_with fail
      refine (c1 _).out.mono ?_
      rintro e w1 ⟨rfl, hb1⟩
      go_wp2_with fail
      go_ret
      exact ⟨congrArg (fun b => Ending.returned (Value.bool b)) (show (decide (268435455 - n < d) || decide (d < -n)) = false from by simp; omega), hb1⟩
end Go.Proofs.YtejckkgpjcbfpaaDoor
