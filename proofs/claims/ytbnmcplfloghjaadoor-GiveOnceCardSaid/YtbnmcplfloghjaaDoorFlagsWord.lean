/-
  Package flags: words, and what Pack, Unpack and Waits answer; deadboltref03's Word, May, Pack and Unpack (taken out of stage 3's texts, in a namespace of its own, for programs that stand on flags).
-/
import Derived.Test.YtbnmcplfloghjaaDoorBase
import Derived.BigQuiet
import Derived.Laws.StructEq
import Derived.Laws.BitsAllLaws
import Derived.Deep.RegionHeld3
import Derived.RegionTactic
namespace Go.Proofs.YtbnmcplfloghjaaDoor
open Go.ChangeShapes Go.WideShapes Go.ChangeAt Go.RowKit
set_option linter.unusedVariables false

namespace P3

/-- Flags as a value. -/
abbrev fl (a b c : Bool) (n : Int) : Value := .agg #[.bool a, .bool b, .bool c, .int .i64 n]
/-- 1 for a flag that is. -/
def b1 (a : Bool) : Int := if a then 1 else 0
/-- A flag's bit. -/
def bitI (a : Bool) (b : Int) : Int := if a then b else 0
/-- The word of flags. -/
def pw (a b c : Bool) (n : Int) : Int := 8 * n + 4 * b1 c + 2 * b1 b + b1 a

set_option maxHeartbeats 400000 in
theorem fbit_ok (is : Bool) (b : Int) (w : World) : Calls Tryd.prog 20 #[.bool is, .int .i64 b] w fun e w' => e = .returned (.int .i64 (bitI is b)) ∧ w' = w := by
  cases is
  · go_enter Tryd.func20, Tryd.ntmps20
    go_wp2
    go_ret
    exact ⟨rfl, rfl⟩
  · go_enter Tryd.func20, Tryd.ntmps20
    go_wp2
    go_ret
    exact ⟨rfl, rfl⟩
theorem i64_small {x : Nat} (h : x < 2 ^ 63) : IntKind.i64.wrap (x : Int) = x := by
  rw [IntKind.wrap_i64]; omega
theorem ofInt_i64 (a : Nat) (ha : a < 2 ^ 63) : (BitVec.ofInt 64 (a : Int)).toNat = a := by
  rw [BitVec.toNat_ofInt]; omega
theorem i64_or (i x y : Nat) (hx : x % 2 ^ i = 0) (hy : y < 2 ^ i) (h : x + y < 2 ^ 63) : bits .or .i64 (x : Int) (y : Int) = ((x + y : Nat) : Int) := by
  show IntKind.i64.wrap ((BitVec.ofInt 64 (x : Int) ||| BitVec.ofInt 64 (y : Int)).toNat : Int) = _
  rw [BitVec.toNat_or, ofInt_i64 x (by omega), ofInt_i64 y (by omega), nat_join i x y hx hy, i64_small h]
theorem i64_bit (i x : Nat) (hi : 2 ^ i < 2 ^ 63) (h : x < 2 ^ 63) : bits .and .i64 (x : Int) ((2 ^ i : Nat) : Int) = ((x / 2 ^ i % 2 * 2 ^ i : Nat) : Int) := by
  have hl : x &&& 2 ^ i < 2 ^ 63 := Nat.lt_of_le_of_lt Nat.and_le_left h
  show IntKind.i64.wrap ((BitVec.ofInt 64 (x : Int) &&& BitVec.ofInt 64 ((2 ^ i : Nat) : Int)).toNat : Int) = _
  rw [BitVec.toNat_and, ofInt_i64 x h, ofInt_i64 _ hi, i64_small hl, nat_bit]
theorem i64_mask31 (n : Int) : bits .and .i64 n 2147483647 = n % 2147483648 := by
  have hm : (BitVec.ofInt 64 2147483647).toNat = 2 ^ 31 - 1 := by decide
  have key : (BitVec.ofInt 64 n &&& BitVec.ofInt 64 2147483647).toNat = (n % ((2 ^ 64 : Nat) : Int)).toNat % 2 ^ 31 := by
    rw [BitVec.toNat_and, BitVec.toNat_ofInt, hm, Nat.and_two_pow_sub_one_eq_mod]
  show IntKind.i64.wrap ((BitVec.ofInt 64 n &&& BitVec.ofInt 64 2147483647).toNat : Nat) = n % 2147483648
  rw [key, IntKind.wrap_i64]
  omega

theorem b1_le (a : Bool) : 0 ≤ b1 a ∧ b1 a ≤ 1 := by cases a <;> decide
theorem pw_nat (a b c : Bool) (n : Int) (h : 0 ≤ n ∧ n < 268435456) : ∃ x : Nat, pw a b c n = (x : Int) ∧ x < 2147483648 := by
  have h1 := b1_le a
  have h2 := b1_le b
  have h3 := b1_le c
  refine ⟨(pw a b c n).toNat, ?_, ?_⟩ <;> unfold pw <;> omega
theorem and1 (a b c : Bool) (n : Int) (h : 0 ≤ n ∧ n < 268435456) : (bits .and .i64 (pw a b c n) 1 != 0) = a := by
  obtain ⟨x, hx, hl⟩ := pw_nat a b c n h
  have e := i64_bit 0 x (by decide) (by omega)
  simp only [Nat.pow_zero, Nat.div_one, Nat.mul_one] at e
  rw [hx]
  rw [show (1 : Int) = ((1 : Nat) : Int) from rfl, e]
  have h2 : pw a b c n = x := hx
  unfold pw at h2
  cases a <;> cases b <;> cases c <;> simp [b1] at h2 <;> simp <;> omega
theorem and2 (a b c : Bool) (n : Int) (h : 0 ≤ n ∧ n < 268435456) : (bits .and .i64 (pw a b c n) 2 != 0) = b := by
  obtain ⟨x, hx, hl⟩ := pw_nat a b c n h
  have e := i64_bit 1 x (by decide) (by omega)
  simp only [Nat.pow_one] at e
  rw [hx]
  rw [show (2 : Int) = ((2 : Nat) : Int) from rfl, e]
  have h2 : pw a b c n = x := hx
  unfold pw at h2
  cases a <;> cases b <;> cases c <;> simp [b1] at h2 <;> simp <;> omega
theorem and4 (a b c : Bool) (n : Int) (h : 0 ≤ n ∧ n < 268435456) : (bits .and .i64 (pw a b c n) 4 != 0) = c := by
  obtain ⟨x, hx, hl⟩ := pw_nat a b c n h
  have e := i64_bit 2 x (by decide) (by omega)
  rw [show (2 : Nat) ^ 2 = 4 from rfl] at e
  rw [hx]
  rw [show (4 : Int) = ((4 : Nat) : Int) from rfl, e]
  have h2 : pw a b c n = x := hx
  unfold pw at h2
  cases a <;> cases b <;> cases c <;> simp [b1] at h2 <;> simp <;> omega
theorem div8 (a b c : Bool) (n : Int) (h : 0 ≤ n ∧ n < 268435456) : wrap64 ((pw a b c n).tdiv 8) = n := by
  have h1 := b1_le a
  have h2 := b1_le b
  have h3 := b1_le c
  have h0 : 0 ≤ pw a b c n := by unfold pw; omega
  rw [Int.tdiv_eq_ediv_of_nonneg h0]
  unfold wrap64 pw
  omega
theorem ors (a b c : Bool) (n : Int) : bits .or .i64 (bits .or .i64 (bits .or .i64 (bits .and .i64 (wrap64 (n * 8)) 2147483647) (bitI c 4)) (bitI b 2)) (bitI a 1) = pw a b c (n % 268435456) := by
  rw [i64_mask31]
  obtain ⟨x, hx⟩ : ∃ x : Nat, n % 268435456 = (x : Int) := ⟨(n % 268435456).toNat, by omega⟩
  have hl : x < 268435456 := by omega
  have e : wrap64 (n * 8) % 2147483648 = ((8 * x : Nat) : Int) := by unfold wrap64; omega
  rw [e, hx]
  have e3 : bitI c 4 = ((if c = true then 4 else 0 : Nat) : Int) := by cases c <;> rfl
  have e2 : bitI b 2 = ((if b = true then 2 else 0 : Nat) : Int) := by cases b <;> rfl
  have e1 : bitI a 1 = ((if a = true then 1 else 0 : Nat) : Int) := by cases a <;> rfl
  rw [e3, e2, e1, i64_or 3 (8 * x) _ (by omega) (by cases c <;> decide) (by cases c <;> simp <;> omega)]
  rw [i64_or 2 _ _ (by cases c <;> simp <;> omega) (by cases b <;> decide) (by cases b <;> cases c <;> simp <;> omega)]
  rw [i64_or 1 _ _ (by cases c <;> cases b <;> simp <;> omega) (by cases a <;> decide) (by cases a <;> cases b <;> cases c <;> simp <;> omega)]
  unfold pw
  cases a <;> cases b <;> cases c <;> simp [b1] <;> omega

theorem fl_eq {a b c a' b' c' : Bool} {n n' : Int} (h1 : a = a') (h2 : b = b') (h3 : c = c') (h4 : n = n') : fl a b c n = fl a' b' c' n' := by rw [h1, h2, h3, h4]
set_option maxHeartbeats 1000000 in
theorem split_ok (a b c : Bool) (n : Int) (h : 0 ≤ n ∧ n < 268435456) (w : World) : Calls Tryd.prog 16 #[.int .i64 (pw a b c n)] w fun e w' => e = .returned (fl a b c n) ∧ Gr w w' := by
  have h1 := Lib.hid (and1 a b c n h)
  have h2 := Lib.hid (and2 a b c n h)
  have h3 := Lib.hid (and4 a b c n h)
  have h4 := Lib.hid (div8 a b c n h)
  generalize pw a b c n = v at *
  go_enter Tryd.func16, Tryd.ntmps16
  go_wp2
  refine bodyPost_ret (v := fl (bits .and .i64 v 1 != 0) (bits .and .i64 v 2 != 0) (bits .and .i64 v 4 != 0) (wrap64 (v.tdiv 8))) (by simp [results, Tryd.results16, go_sem]) rfl ⟨?_, (Gr.refl _).al _⟩
  exact congrArg _ (fl_eq h1.out h2.out h3.out h4.out)
set_option maxHeartbeats 1000000 in
theorem join_ok (a b c : Bool) (n : Int) (w : World) : Calls Tryd.prog 19 #[fl a b c n] w fun e w' => e = .returned (.int .i64 (pw a b c (n % 268435456))) ∧ Gr w w' := by
  have h := Lib.hid (ors a b c n)
  go_enter Tryd.func19, Tryd.ntmps19
  go_wp2_with fail
  go_quiet ((go_at_call 20; exact Calls.quiet_of_same (fbit_ok _ _ _)))
  go_wp2_with fail
  go_ret
  exact ⟨congrArg _ (congrArg _ h.out), ((Gr.refl _).al _).drN _⟩
/-- In the world w the block k holds flags. -/
def FlAt (w : World) (k : Nat) (a b c : Bool) (n : Int) : Prop :=
  w.cell? ⟨k, 0, none⟩ = some (.bool a) ∧ w.cell? ⟨k, 1, none⟩ = some (.bool b) ∧ w.cell? ⟨k, 2, none⟩ = some (.bool c) ∧ w.cell? ⟨k, 3, none⟩ = some (.int .i64 n) ∧ k < w.heap.size
theorem FlAt.new (w : World) (a b c : Bool) (n : Int) (t : TypeId) : FlAt (w.alloc (.cells #[.bool a, .bool b, .bool c, .int .i64 n] t)) w.heap.size a b c n :=
  ⟨by simp, by simp, by simp, by simp, by simp⟩
theorem FlAt.gr {w w' : World} {k : Nat} {a b c : Bool} {n : Int} (h : FlAt w k a b c n) (g : Gr w w') : FlAt w' k a b c n := by
  obtain ⟨h0, h1, h2, h3, h4⟩ := h
  exact ⟨(g.cell (p := ⟨k, 0, none⟩) h4).trans h0, (g.cell (p := ⟨k, 1, none⟩) h4).trans h1, (g.cell (p := ⟨k, 2, none⟩) h4).trans h2, (g.cell (p := ⟨k, 3, none⟩) h4).trans h3, Nat.lt_of_lt_of_le h4 g.size⟩

/-- The block k is no string's. -/
def Fz (w : World) (k : Nat) : Prop := w.frozen? ⟨k, 0, none⟩ = false ∧ w.frozen? ⟨k, 1, none⟩ = false ∧ w.frozen? ⟨k, 2, none⟩ = false ∧ w.frozen? ⟨k, 3, none⟩ = false ∧ k < w.heap.size
theorem Fz.new (w : World) (C : Array Value) (t : TypeId) : Fz (w.alloc (.cells C t)) w.heap.size :=
  ⟨by simp [go_sem], by simp [go_sem], by simp [go_sem], by simp [go_sem], by simp⟩
theorem Fz.gr {w w' : World} {k : Nat} (h : Fz w k) (g : Gr w w') : Fz w' k := by
  obtain ⟨h0, h1, h2, h3, h4⟩ := h
  exact ⟨(g.frozen (p := ⟨k, 0, none⟩) h4).trans h0, (g.frozen (p := ⟨k, 1, none⟩) h4).trans h1, (g.frozen (p := ⟨k, 2, none⟩) h4).trans h2, (g.frozen (p := ⟨k, 3, none⟩) h4).trans h3, Nat.lt_of_lt_of_le h4 g.size⟩

set_option maxHeartbeats 1000000 in
theorem Pack_ok (a b c : Bool) (n : Int) (h : 0 ≤ n ∧ n < 268435456) (w : World) : Calls Tryd.prog 17 #[fl a b c n] w fun e w' => e = .returned (.tuple #[.int .i64 (pw a b c n), .int .i64 0]) ∧ Gr w w' := by
  have hm : n % 268435456 = n := by omega
  have c1 := fun w => Lib.hid (hm ▸ join_ok a b c n w)
  have c2 := fun w => Lib.hid (split_ok a b c n h w)
  clear hm h
  generalize pw a b c n = v at *
  go_enter Tryd.func17, Tryd.ntmps17
  go_wp2_with fail
  refine (c1 _).out.mono ?_
  rintro e w1 ⟨rfl, hb1⟩
  have F := (FlAt.new w a b c n _).gr hb1
  have G := ((Gr.refl w).al _).trans hb1
  clear hb1
  obtain ⟨K, hK⟩ : ∃ k, w.heap.size = k := ⟨_, rfl⟩
  rw [hK] at F
  simp only [hK]
  clear hK
  go_wp2_with fail
  go_region_held3 (fun w' => w'.cell? ⟨K, 0, none⟩ = some (.bool a) ∧ w'.cell? ⟨K, 1, none⟩ = some (.bool b) ∧ w'.cell? ⟨K, 2, none⟩ = some (.bool c) ∧ w'.cell? ⟨K, 3, none⟩ = some (.int .i64 n) ∧ K < w'.heap.size ∧ Gr w w') (first | exact ⟨F.1, F.2.1, F.2.2.1, F.2.2.2.1, F.2.2.2.2, G.dr⟩ | (go_split_ands; exact ⟨(hb2.cell (p := ⟨K, 0, none⟩) (by assumption)).trans (by assumption), (hb2.cell (p := ⟨K, 1, none⟩) (by assumption)).trans (by assumption), (hb2.cell (p := ⟨K, 2, none⟩) (by assumption)).trans (by assumption), (hb2.cell (p := ⟨K, 3, none⟩) (by assumption)).trans (by assumption), Nat.lt_of_lt_of_le (by assumption) hb2.size, Gr.trans (by assumption) hb2⟩))
    (first | (go_at_call 16; refine (c2 _).out.mono ?_; rintro ee w2 ⟨rfl, hb2⟩))
  rename_i hH
  obtain ⟨q0, q1, q2, q3, q4, q5⟩ := hH
  go_wp2_with fail
  go_ret2
  exact ⟨rfl, q5⟩
set_option maxHeartbeats 1000000 in
theorem Pack_no (a b c : Bool) (n : Int) (h : ¬ (0 ≤ n ∧ n < 268435456)) (w : World) : Calls Tryd.prog 17 #[fl a b c n] w fun e w' => e = .returned (.tuple #[.int .i64 0, .int .i64 1]) ∧ Gr w w' := by
  obtain ⟨m, hm⟩ : ∃ m, n % 268435456 = m := ⟨_, rfl⟩
  have hmn : (m == n) = false := beq_eq_false_iff_ne.2 (by omega)
  have c1 := fun w => Lib.hid (hm ▸ join_ok a b c n w)
  have c2 := fun w => Lib.hid (split_ok a b c m (by omega) w)
  clear hm h
  generalize pw a b c m = v at *
  go_enter Tryd.func17, Tryd.ntmps17
  go_wp2_with fail
  refine (c1 _).out.mono ?_
  rintro e w1 ⟨rfl, hb1⟩
  have F := (FlAt.new w a b c n _).gr hb1
  have G := ((Gr.refl w).al _).trans hb1
  clear hb1
  obtain ⟨K, hK⟩ : ∃ k, w.heap.size = k := ⟨_, rfl⟩
  rw [hK] at F
  simp only [hK]
  clear hK
  go_wp2_with fail
  go_region_held3 (fun w' => w'.cell? ⟨K, 0, none⟩ = some (.bool a) ∧ w'.cell? ⟨K, 1, none⟩ = some (.bool b) ∧ w'.cell? ⟨K, 2, none⟩ = some (.bool c) ∧ w'.cell? ⟨K, 3, none⟩ = some (.int .i64 n) ∧ K < w'.heap.size ∧ Gr w w') (first | exact ⟨F.1, F.2.1, F.2.2.1, F.2.2.2.1, F.2.2.2.2, G.dr⟩ | (go_split_ands; exact ⟨(hb2.cell (p := ⟨K, 0, none⟩) (by assumption)).trans (by assumption), (hb2.cell (p := ⟨K, 1, none⟩) (by assumption)).trans (by assumption), (hb2.cell (p := ⟨K, 2, none⟩) (by assumption)).trans (by assumption), (hb2.cell (p := ⟨K, 3, none⟩) (by assumption)).trans (by assumption), Nat.lt_of_lt_of_le (by assumption) hb2.size, Gr.trans (by assumption) hb2⟩))
    (first | (go_at_call 16; refine (c2 _).out.mono ?_; rintro ee w2 ⟨rfl, hb2⟩))
  rename_i hH
  obtain ⟨q0, q1, q2, q3, q4, q5⟩ := hH
  go_wp2_with fail
  go_ret2
  exact ⟨rfl, q5⟩
set_option maxHeartbeats 1000000 in
theorem Unpack_ok (a b c : Bool) (n : Int) (h : 0 ≤ n ∧ n < 268435456) (w : World) : Calls Tryd.prog 11 #[.int .i64 (pw a b c n)] w fun e w' => e = .returned (.tuple #[fl a b c n, .int .i64 0]) ∧ Gr w w' := by
  have c2 := fun w => Lib.hid (split_ok a b c n h w)
  obtain ⟨x, hx, hl⟩ := pw_nat a b c n h
  have h0 : ¬ pw a b c n < 0 := by omega
  have h1 : ¬ 2147483647 < pw a b c n := by omega
  clear hx hl x
  generalize pw a b c n = v at *
  go_enter Tryd.func11, Tryd.ntmps11
  go_wp2_with fail
  refine (c2 _).out.mono ?_
  rintro e w1 ⟨rfl, hb1⟩
  obtain ⟨q0, q1, q2, q3, q4⟩ := (FlAt.new w false false false 0 _).gr hb1
  obtain ⟨z0, z1, z2, z3, z4⟩ := (Fz.new w _ _).gr hb1
  have G := ((Gr.refl w).al _).trans hb1
  clear hb1
  go_wp2_with fail
  exact bodyPost_ret (v := .tuple #[fl a b c n, .int .i64 0]) (by simp [results, Tryd.results11, go_sem, q0, q1, q2, q3]) rfl ⟨rfl, (((G.st (Nat.le_refl _) _).st (Nat.le_refl _) _).st (Nat.le_refl _) _).st (Nat.le_refl _) _⟩
set_option maxHeartbeats 1000000 in
theorem Unpack_no (v : Int) (h : ¬ (0 ≤ v ∧ v < 2147483648)) (w : World) : Calls Tryd.prog 11 #[.int .i64 v] w fun e w' => e = .returned (.tuple #[fl false false false 0, .int .i64 1]) ∧ Gr w w' := by
  by_cases h0 : v < 0
  · clear h
    go_enter Tryd.func11, Tryd.ntmps11
    go_wp2_with fail
    exact bodyPost_ret (v := .tuple #[fl false false false 0, .int .i64 1]) (by simp [results, Tryd.results11, go_sem]) rfl ⟨rfl, (Gr.refl w).al _⟩
  · have h1 : 2147483647 < v := by omega
    clear h
    go_enter Tryd.func11, Tryd.ntmps11
    go_wp2_with fail
    exact bodyPost_ret (v := .tuple #[fl false false false 0, .int .i64 1]) (by simp [results, Tryd.results11, go_sem]) rfl ⟨rfl, (Gr.refl w).al _⟩
set_option maxHeartbeats 1000000 in
theorem Waits_bad (v d : Int) (h : ¬ (0 ≤ v ∧ v < 2147483648)) (w : World) : Calls Tryd.prog 13 #[.int .i64 v, .int .i64 d] w fun e w' => e = .returned (.tuple #[.int .i64 0, .int .i64 1]) ∧ Gr w w' := by
  have c1 := fun w => Lib.hid (Unpack_no v h w)
  clear h
  go_enter Tryd.func13, Tryd.ntmps13
  go_wp2_with fail
  refine (c1 _).out.mono ?_
  rintro e w1 ⟨rfl, hb1⟩
  go_wp2_with fail
  go_ret2
  exact ⟨rfl, hb1.al _⟩
set_option maxHeartbeats 1000000 in
theorem Waits_is (a b c : Bool) (n d m : Int) (r s : Int) (h : 0 ≤ n ∧ n < 268435456) (hm : wrap64 (n + d) = m) (hp : ∀ w, Calls Tryd.prog 17 #[fl a b c m] w fun e w' => e = .returned (.tuple #[.int .i64 r, .int .i64 s]) ∧ Gr w w') (r' s' : Int) (hrs : (s = 0 ∧ r' = r ∧ s' = 0) ∨ (s = 1 ∧ r' = 0 ∧ s' = 10)) (w : World) : Calls Tryd.prog 13 #[.int .i64 (pw a b c n), .int .i64 d] w fun e w' => e = .returned (.tuple #[.int .i64 r', .int .i64 s']) ∧ Gr w w' := by
  have c1 := fun w => Lib.hid (Unpack_ok a b c n h w)
  have c2 := fun w => Lib.hid (hp w)
  have HM := Lib.hid hm
  clear h hp hm
  generalize pw a b c n = v at *
  go_enter Tryd.func13, Tryd.ntmps13
  go_wp2_with fail
  refine (c1 _).out.mono ?_
  rintro e w1 ⟨rfl, hb1⟩
  go_wp2_with fail
  rw [HM.out]
  refine (c2 _).out.mono ?_
  rintro e w2 ⟨rfl, hb2⟩
  rcases hrs with ⟨rfl, rfl, rfl⟩ | ⟨rfl, rfl, rfl⟩
  · go_wp2_with fail
    go_ret2
    exact ⟨rfl, (hb1.al _).trans hb2⟩
  · go_wp2_with fail
    go_ret2
    exact ⟨rfl, (hb1.al _).trans hb2⟩

theorem Waits_ok (a b c : Bool) (n d m : Int) (h : 0 ≤ n ∧ n < 268435456) (hm : wrap64 (n + d) = m) (hr : 0 ≤ m ∧ m < 268435456) (w : World) : Calls Tryd.prog 13 #[.int .i64 (pw a b c n), .int .i64 d] w fun e w' => e = .returned (.tuple #[.int .i64 (pw a b c m), .int .i64 0]) ∧ Gr w w' :=
  Waits_is a b c n d m (pw a b c m) 0 h hm (fun w => Pack_ok a b c m hr w) _ _ (.inl ⟨rfl, rfl, rfl⟩) w
theorem Waits_no (a b c : Bool) (n d m : Int) (h : 0 ≤ n ∧ n < 268435456) (hm : wrap64 (n + d) = m) (hr : ¬ (0 ≤ m ∧ m < 268435456)) (w : World) : Calls Tryd.prog 13 #[.int .i64 (pw a b c n), .int .i64 d] w fun e w' => e = .returned (.tuple #[.int .i64 0, .int .i64 10]) ∧ Gr w w' :=
  Waits_is a b c n d m 0 1 h hm (fun w => Pack_no a b c m hr w) _ _ (.inr ⟨rfl, rfl, rfl⟩) w
set_option maxHeartbeats 400000 in
theorem rbit_ok (is : Bool) (b : Int) (w : World) : Calls Tryd.prog 18 #[.bool is, .int .i64 b] w fun e w' => e = .returned (.int .i64 (bitI is b)) ∧ w' = w := by
  cases is
  · go_enter Tryd.func18, Tryd.ntmps18
    go_wp2
    go_ret
    exact ⟨rfl, rfl⟩
  · go_enter Tryd.func18, Tryd.ntmps18
    go_wp2
    go_ret
    exact ⟨rfl, rfl⟩
set_option maxHeartbeats 1000000 in
theorem rWord_yes (v : Int) (h : 0 ≤ v ∧ v < 2147483648) (w : World) : Calls Tryd.prog 9 #[.int .i64 v] w fun e w' => e = .returned (.bool true) ∧ w' = w := by
  obtain ⟨h1, h2⟩ := h
  go_enter Tryd.func9, Tryd.ntmps9
  go_wp2
  go_ret
  exact ⟨rfl, rfl⟩
set_option maxHeartbeats 1000000 in
theorem rWord_no (v : Int) (h : ¬ (0 ≤ v ∧ v < 2147483648)) (w : World) : Calls Tryd.prog 9 #[.int .i64 v] w fun e w' => e = .returned (.bool false) ∧ w' = w := by
  by_cases h0 : 0 ≤ v
  · have h1 : ¬ v < 2147483648 := by omega
    clear h
    go_enter Tryd.func9, Tryd.ntmps9
    go_wp2
    go_ret
    exact ⟨rfl, rfl⟩
  · clear h
    go_enter Tryd.func9, Tryd.ntmps9
    go_wp2
    go_ret
    exact ⟨rfl, rfl⟩
theorem rsum (a b c : Bool) (n : Int) (h : 0 ≤ n ∧ n < 268435456) : wrap64 (wrap64 (wrap64 (bitI a 1 + bitI b 2) + bitI c 4) + wrap64 (8 * n)) = pw a b c n := by
  unfold pw wrap64
  cases a <;> cases b <;> cases c <;> simp [bitI, b1] <;> omega
set_option maxHeartbeats 1000000 in
theorem rPack_ok (a b c : Bool) (n : Int) (h : 0 ≤ n ∧ n < 268435456) (w : World) : Calls Tryd.prog 15 #[fl a b c n] w fun e w' => e = .returned (.int .i64 (pw a b c n)) ∧ Gr w w' := by
  have hs := Lib.hid (rsum a b c n h)
  clear h
  go_enter Tryd.func15, Tryd.ntmps15
  go_wp2_with fail
  go_quiet ((go_at_call 18; exact Calls.quiet_of_same (rbit_ok _ _ _)))
  go_wp2_with fail
  go_ret
  exact ⟨congrArg _ (congrArg _ hs.out), ((Gr.refl _).al _).drN _⟩
theorem runp1 (a b c : Bool) (n : Int) (h : 0 ≤ n ∧ n < 268435456) : ((pw a b c n).tmod 2 == 1) = a := by
  have h1 := pw_nat a b c n h
  obtain ⟨x, hx, hl⟩ := h1
  rw [hx, Int.tmod_eq_emod_of_nonneg (by omega)]
  unfold pw at hx
  cases a <;> cases b <;> cases c <;> simp [b1] at hx <;> simp <;> omega
theorem runp2 (a b c : Bool) (n : Int) (h : 0 ≤ n ∧ n < 268435456) : ((wrap64 ((pw a b c n).tdiv 2)).tmod 2 == 1) = b := by
  obtain ⟨x, hx, hl⟩ := pw_nat a b c n h
  rw [hx, Int.tdiv_eq_ediv_of_nonneg (by omega), show wrap64 ((x : Int) / 2) = (x : Int) / 2 from by unfold wrap64; omega, Int.tmod_eq_emod_of_nonneg (by omega)]
  unfold pw at hx
  cases a <;> cases b <;> cases c <;> simp [b1] at hx <;> simp <;> omega
theorem runp4 (a b c : Bool) (n : Int) (h : 0 ≤ n ∧ n < 268435456) : ((wrap64 ((pw a b c n).tdiv 4)).tmod 2 == 1) = c := by
  obtain ⟨x, hx, hl⟩ := pw_nat a b c n h
  rw [hx, Int.tdiv_eq_ediv_of_nonneg (by omega), show wrap64 ((x : Int) / 4) = (x : Int) / 4 from by unfold wrap64; omega, Int.tmod_eq_emod_of_nonneg (by omega)]
  unfold pw at hx
  cases a <;> cases b <;> cases c <;> simp [b1] at hx <;> simp <;> omega
set_option maxHeartbeats 1000000 in
theorem rUnpack_ok (a b c : Bool) (n : Int) (h : 0 ≤ n ∧ n < 268435456) (w : World) : Calls Tryd.prog 14 #[.int .i64 (pw a b c n)] w fun e w' => e = .returned (fl a b c n) ∧ Gr w w' := by
  have h1 := Lib.hid (runp1 a b c n h)
  have h2 := Lib.hid (runp2 a b c n h)
  have h3 := Lib.hid (runp4 a b c n h)
  have h4 := Lib.hid (div8 a b c n h)
  generalize pw a b c n = v at *
  go_enter Tryd.func14, Tryd.ntmps14
  go_wp2
  refine bodyPost_ret (v := fl (v.tmod 2 == 1) ((wrap64 (v.tdiv 2)).tmod 2 == 1) ((wrap64 (v.tdiv 4)).tmod 2 == 1) (wrap64 (v.tdiv 8))) (by simp [results, Tryd.results14, go_sem]) rfl ⟨?_, (Gr.refl _).al _⟩
  exact congrArg _ (fl_eq h1.out h2.out h3.out h4.out)
theorem pw_of {v : Int} (h : 0 ≤ v ∧ v < 2147483648) : ∃ a b c n, v = pw a b c n ∧ 0 ≤ n ∧ n < 268435456 := by
  refine ⟨decide (v % 2 = 1), decide (v / 2 % 2 = 1), decide (v / 4 % 2 = 1), v / 8, ?_, by omega, by omega⟩
  unfold pw b1
  by_cases h1 : v % 2 = 1 <;> by_cases h2 : v / 2 % 2 = 1 <;> by_cases h3 : v / 4 % 2 = 1 <;> simp [h1, h2, h3] <;> omega
end P3
end Go.Proofs.YtbnmcplfloghjaaDoor
