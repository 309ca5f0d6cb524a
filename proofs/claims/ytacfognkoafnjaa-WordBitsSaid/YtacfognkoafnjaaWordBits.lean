/-
  Proved: deadboltlaw01.WordBits returns true at every input (two words of a kind have the same bits just if they are the same; one more turns the lowest one). No condition.
-/
import Derived.Test.YtacfognkoafnjaaWordBitsFn
import Derived.Deep.QuietTactic
import Derived.BigQuiet
namespace Go.Proofs.Ytacfognkoafnjaa
open Go.ChangeShapes Go.WideShapes Go.ChangeAt Go.RowKit
set_option linter.unusedVariables false

theorem bitS_size (n u : Nat) : (bitS n u).size = n := by simp [bitS, strOfNums_size, bitsL_len]
theorem bitS_at (n u : Nat) (hn : 0 < n) (h : n - 1 < (bitS n u).size) : ((bitS n u)[n - 1]'h).toNat = 48 + u % 2 := by
  show (((bitS n u).data)[n - 1]'h).toNat = _
  simp [bitS, strOfNums, bitsL, dig]
  omega
theorem dig_inj (n u v q : Nat) (h : UInt8.ofNat (dig n u q).toNat = UInt8.ofNat (dig n v q).toNat) : u / 2 ^ (n - 1 - q) % 2 = v / 2 ^ (n - 1 - q) % 2 := by
  have h := congrArg UInt8.toNat h
  simp only [dig, UInt8.toNat_ofNat', Int.toNat_natCast] at h
  omega
theorem bitS_inj (n u v : Nat) (h : (bitS n u).data.toList = (bitS n v).data.toList) : u % 2 ^ n = v % 2 ^ n := by
  apply Nat.eq_of_testBit_eq
  intro i
  rw [Nat.testBit_mod_two_pow, Nat.testBit_mod_two_pow]
  by_cases hi : i < n
  · have hq := congrArg (fun l : List UInt8 => l[n - 1 - i]?) h
    simp only [bitS, strOfNums_data, bitsL, List.map_map, List.getElem?_map, List.getElem?_range (show n - 1 - i < n from by omega), Option.map_some, Option.some.injEq, Function.comp] at hq
    have hd := dig_inj n u v _ hq
    rw [show n - 1 - (n - 1 - i) = i from by omega] at hd
    simp [hi, Nat.testBit_eq_decide_div_mod_eq, hd]
  · simp [hi]
theorem word_inj (k x y : Int) (hk : 0 ≤ k ∧ k ≤ 2) (hx : fitB k x = true) (hy : fitB k y = true) (bx : -9223372036854775808 ≤ x ∧ x ≤ 9223372036854775807) (hy' : -9223372036854775808 ≤ y ∧ y ≤ 9223372036854775807) (h : ub x % 2 ^ nb k = ub y % 2 ^ nb k) : x = y := by
  unfold ub nb at h
  simp only [fitB, Bool.and_eq_true, decide_eq_true_eq, beq_iff_eq] at hx hy
  obtain ⟨_, hx⟩ := hx
  obtain ⟨_, hy⟩ := hy
  unfold wd wrap32 at hx hy
  obtain rfl | rfl | rfl : k = 0 ∨ k = 1 ∨ k = 2 := by omega
  · simp at h hx hy; omega
  · simp at h hx hy; omega
  · simp at h; omega
theorem bits_same (k x y : Int) (hk : 0 ≤ k ∧ k ≤ 2) (hx : fitB k x = true) (hy : fitB k y = true) (bx : -9223372036854775808 ≤ x ∧ x ≤ 9223372036854775807) (hy' : -9223372036854775808 ≤ y ∧ y ≤ 9223372036854775807) :
    ((bitS (nb k) (ub x)).toList == (bitS (nb k) (ub y)).toList) = (x == y) := by
  by_cases e : x = y
  · subst e; simp
  · have h1 : (x == y) = false := beq_eq_false_iff_ne.2 e
    rw [h1, beq_eq_false_iff_ne]
    intro h
    rw [ByteArray.toList_eq, ByteArray.toList_eq] at h
    exact e (word_inj k x y hk hx hy bx hy' (bitS_inj _ _ _ h))
theorem one_more (k x : Int) : ub (wd k (wrap64 (x + 1))) % 2 ≠ ub x % 2 := by
  unfold ub wd wrap32 wrap64; split
  · omega
  · split <;> omega
theorem idx_run (S : ByteArray) (N : Nat) (c : Int) (hs : S.size = N) (hn : 0 < N) (hc : ∀ h : N - 1 < S.size, ((S[N - 1]'h).toNat : Int) = c) (W : World) :
    (Instr.index 9 (.string S) (.int .i64 ((N : Int) - 1))).run Try.prog W = .ok (.int .u8 c) W := by
  have h1 : ((N : Int) - 1).toNat = N - 1 := by omega
  have hlt : N - 1 < S.size := by omega
  rw [run_index_string W _ S .i64 _ Try.underlying9, dif_pos ⟨by omega, by omega⟩, ← hc hlt]
  simp only [h1]
set_option maxHeartbeats 1000000 in
set_option maxRecDepth 100000 in
theorem WordBits_walk (k a b : Int) (hk : -9223372036854775808 ≤ k ∧ k ≤ 9223372036854775807) (ha : -9223372036854775808 ≤ a ∧ a ≤ 9223372036854775807) (hb : -9223372036854775808 ≤ b ∧ b ≤ 9223372036854775807) (w : World) :
    Calls Try.prog 5 #[.int .i64 k, .int .i64 a, .int .i64 b] w fun e w' => e = .returned (.bool true) ∧ Gr w w' := by
  go_enter Try.func5, Try.ntmps5
  go_wp2_with fail
  have hK := mod3' k
  generalize (wrap64 (k.tmod 3 + 3)).tmod 3 = K at *
  have bX := wd_b K a ha
  have bY := wd_b K b hb
  have fX := wd_fits K a hK
  have fY := wd_fits K b hK
  obtain ⟨X, hX⟩ : ∃ x, wd K a = x := ⟨_, rfl⟩
  obtain ⟨Y, hY⟩ : ∃ x, wd K b = x := ⟨_, rfl⟩
  obtain ⟨Z, hZ⟩ : ∃ x, wd K (wrap64 (X + 1)) = x := ⟨_, rfl⟩
  have bZ : -9223372036854775808 ≤ Z ∧ Z ≤ 9223372036854775807 := hZ ▸ wd_b K _ (wrap64_b _)
  have fZ : fitB K Z = true := hZ ▸ wd_fits K _ hK
  rw [hX] at bX fX
  rw [hY] at bY fY
  obtain ⟨S, hS⟩ : ∃ s, bitS (nb K) (ub X) = s := ⟨_, rfl⟩
  obtain ⟨T, hT⟩ : ∃ s, bitS (nb K) (ub Y) = s := ⟨_, rfl⟩
  obtain ⟨R, hR⟩ : ∃ s, bitS (nb K) (ub Z) = s := ⟨_, rfl⟩
  have c1 := fun w => Lib.hid (Wrap_is hX hK ha w)
  have c2 := fun w => Lib.hid (Wrap_is hY hK hb w)
  have c3 := fun w => Lib.hid (hS ▸ Bits_ok K X w bX fX)
  have c4 := fun w => Lib.hid (hT ▸ Bits_ok K Y w bY fY)
  have c5 := fun w => Lib.hid (Add_is hZ hK w)
  have c6 := fun w => Lib.hid (hR ▸ Bits_ok K Z w bZ fZ)
  have sS : S.size = nb K := hS ▸ bitS_size _ _
  have sT : T.size = nb K := hT ▸ bitS_size _ _
  have sR : R.size = nb K := hR ▸ bitS_size _ _
  obtain ⟨N, hN, n1, n2⟩ : ∃ N, nb K = N ∧ 32 ≤ N ∧ N ≤ 64 := ⟨_, rfl, by unfold nb; split <;> omega, by unfold nb; split <;> omega⟩
  rw [hN] at sS sT sR
  have hBB : (S.toList == T.toList) = (X == Y) := by rw [← hS, ← hT]; exact bits_same K X Y hK fX fY bX bY
  have iS := fun W => Lib.hid (idx_run S N _ sS (by omega) (fun h => by subst hS; subst hN; rw [bitS_at _ _ (by omega)]) W)
  have iR := fun W => Lib.hid (idx_run R N _ sR (by omega) (fun h => by subst hR; subst hN; rw [bitS_at _ _ (by omega)]) W)
  have hCC : (((48 + ub X % 2 : Nat) : Int) != ((48 + ub Z % 2 : Nat) : Int)) = true := by
    have := one_more K X
    rw [hZ] at this
    rw [bne_iff_ne]
    omega
  generalize ((48 + ub X % 2 : Nat) : Int) = cX at *
  generalize ((48 + ub Z % 2 : Nat) : Int) = cZ at *
  have HBB := Lib.hid hBB
  clear hBB
  have n3 : decide ((N : Int) < 32) = false := by simp; omega
  clear hX hY hZ hS hT hR fX fY fZ hN
  refine (c1 _).out.mono ?_
  rintro e w1 ⟨rfl, hb1⟩
  clear c1
  go_wp2_with fail
  refine (c2 _).out.mono ?_
  rintro e w2 ⟨rfl, hb2⟩
  clear c2
  go_wp2_with fail
  refine (c3 _).out.mono ?_
  rintro e w3 ⟨rfl, hb3⟩
  clear c3
  go_wp2_with fail
  refine (c4 _).out.mono ?_
  rintro e w4 ⟨rfl, hb4⟩
  clear c4
  go_wp2_with fail
  refine (c5 _).out.mono ?_
  rintro e w5 ⟨rfl, hb5⟩
  clear c5
  go_wp2_with fail
  refine (c6 _).out.mono ?_
  rintro e w6 ⟨rfl, hb6⟩
  clear c6
  go_wp2_with fail
  refine (alive1_ok _).mono ?_
  rintro e w7 ⟨rfl, hb7⟩
  go_wp2_with fail
  have hBB := HBB.out
  have jS := fun W => (iS W).out
  have jR := fun W => (iR W).out
  obtain ⟨B, hB⟩ : ∃ B, (X == Y) = B := ⟨_, rfl⟩
  rw [hB] at hBB
  have hw : IntKind.i64.wrap ((N : Int) - 1) = (N : Int) - 1 := IntWalk.i64_in _ (by omega)
  go_quiet (fail)
  go_wp2
  go_ret
  exact ⟨rfl, (hb1.trans (hb2.trans (hb3.trans (hb4.trans (hb5.trans (hb6.trans hb7)))))).drN _⟩

set_option maxRecDepth 100000 in
theorem WordBits_lifted (os : Os) (started : os.Started) (H : Type) (enc : TypeId × Value → H) :
    ReturnsInHanded {} Try.checked os 5 .any (Rows.wordBitsSpec.pre6 enc Try.prog Try.f5 Rows.wordBitsRow.domain false) (Rows.wordBitsSpec.post enc Try.prog Try.f5 false true false false) := by
  refine returnsInHanded_of_change (C := Try.checked) own started (by kernel_rfl) Try.func5
    (ChangeSpec.witness6 (enc := enc) (C := Try.checked) false ⟨#[], #[.int .i64 0, .int .i64 0, .int .i64 0], []⟩ 8 (by kernel_rfl) (by kernel_rfl) (by kernel_rfl) (by kernel_rfl)) ?_
  intro W base args ds gs before hval0 hW hcnd _
  have hval : ∀ (j : Nat) t v, Try.f5.params[j]? = some t → args[j]? = some v → Value.okWide Try.prog W .any base t v := hval0
  have hW' := hW
  obtain ⟨p, q, hA0, hV, rfl, hfz, hnd⟩ := hW
  have hA : DataW.TrodAll enc Try.prog W 0 (fun _ => true) true Try.f5.params.toList args.toList ds p := hA0
  rw [Try.params5] at hA hval
  obtain ⟨v0, vs0, d0, ds0, p0, q0, hargs, rfl, rfl, h0, r0⟩ := trodAll_cons hA
  obtain ⟨v1, vs1, d1, ds1, p1, q1, rfl, rfl, rfl, h1, r1⟩ := trodAll_cons r0
  obtain ⟨v2, vs2, d2, ds2, p2, q2, rfl, rfl, rfl, h2, r2⟩ := trodAll_cons r1
  obtain ⟨rfl, rfl, rfl⟩ := trodAll_nil r2
  obtain rfl : args = #[v0, v1, v2] := by cases args; simp_all
  obtain ⟨rfl, rfl⟩ := trodVars_none hV
  obtain ⟨a0, rfl, rfl, rfl, w0⟩ := open_int Try.underlying3 (hval 0 3 v0 rfl rfl) h0
  obtain ⟨a1, rfl, rfl, rfl, w1⟩ := open_int Try.underlying3 (hval 1 3 v1 rfl rfl) h1
  obtain ⟨a2, rfl, rfl, rfl, w2⟩ := open_int Try.underlying3 (hval 2 3 v2 rfl rfl) h2
  clear hA0 hval0
  simp only [List.append_nil] at hW'
  refine (WordBits_walk a0 a1 a2 (wfb w0) (wfb w1) (wfb w2) W).mono fun e W' ⟨he, hg⟩ => ?_
  subst he
  exact ⟨_, rfl, post_below (pa := []) (pv := []) hW' (fun _ _ _ => (trodAll_cons_mk (shut_bool Try.underlying4 _) trodAll_mk0)) (fun sp _ => (trodAll_cons_mk (shut_int Try.underlying3 w0) (trodAll_cons_mk (shut_int Try.underlying3 w1) (trodAll_cons_mk (shut_int Try.underlying3 w2) trodAll_mk0)))) (fun _ _ => rfl) rfl
    hg (ok_one (by kernel_rfl) rfl (okWide_bool_mk Try.underlying4 _))⟩

theorem WordBits_over : Rows.wordBitsRow.holds Try.pinned (OpenSpec.ofChange Rows.wordBitsSpec) :=
  OpenClaim.holds_of_wide 5 Try.f5 rfl rfl rfl rfl rfl rfl rfl ⟨rfl, rfl, rfl, rfl, rfl⟩ rfl rfl rfl rfl rfl (by kernel_rfl) Try.func5 (by kernel_rfl)
    (of_decide_eq_true (by kernel_rfl)) (by unfold Func.isWrapper; first | (rw [if_pos (by decide +kernel)]; kernel_rfl) | (rw [if_neg (by decide +kernel)]; exact ⟨rfl, rfl⟩))
    (fun os started H enc _ => WordBits_lifted os started H enc)

/-- The statement. -/
theorem WordBits_holds : Rows.WordBitsSaid :=
  WordBits_over
#print axioms WordBits_holds
end Go.Proofs.Ytacfognkoafnjaa
