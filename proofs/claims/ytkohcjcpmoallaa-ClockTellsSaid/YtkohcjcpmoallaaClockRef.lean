/-
  deadboltref04, and a parameter []int, opened.
-/
import Derived.Test.YtkohcjcpmoallaaClockSpread
import Derived.Deep.Slices
namespace Go.Proofs.Ytkohcjcpmoallaa
open Go.ChangeShapes Go.WideShapes Go.ChangeAt Go.RowKit
set_option linter.unusedVariables false

set_option maxHeartbeats 1000000 in
theorem rRight_yes (t : Int) (h : Tm t) (w : World) : Calls Try.prog 11 #[.int .i64 t] w fun e w' => e = .returned (.bool true) ∧ w' = w := by
  unfold Tm at h
  go_enter Try.func11, Try.ntmps11
  go_wp2_with fail
  go_ret
  exact ⟨rfl, rfl⟩
set_option maxHeartbeats 1000000 in
theorem rRight_no (t : Int) (h : ¬ Tm t) (w : World) : Calls Try.prog 11 #[.int .i64 t] w fun e w' => e = .returned (.bool false) ∧ w' = w := by
  unfold Tm at h
  by_cases h1 : t < 0
  · clear h
    go_enter Try.func11, Try.ntmps11
    go_wp2_with fail
    go_ret
    exact ⟨rfl, rfl⟩
  · have h2 : 4611686018427387904 < t := by omega
    have h3 : 0 ≤ t := by omega
    have h4 : decide (t ≤ 4611686018427387904) = false := decide_eq_false (by omega)
    clear h h1
    go_enter Try.func11, Try.ntmps11
    go_wp2_with fail
    go_ret
    first
      | exact ⟨rfl, rfl⟩
      | exact ⟨congrArg _ (congrArg _ h4), rfl⟩
set_option maxHeartbeats 1000000 in
theorem rSince_ok (a b : Int) (ha : Tm a) (hb : Tm b) (w : World) : Calls Try.prog 15 #[.int .i64 b, .int .i64 a] w fun e w' => e = .returned (.int .i64 (gap a b)) ∧ w' = w := by
  unfold Tm at ha hb
  obtain ⟨x, hx⟩ : ∃ x, gap a b = x := ⟨_, rfl⟩
  have HX := Lib.hid hx
  rw [hx]
  clear hx
  go_enter Try.func15, Try.ntmps15
  go_wp2_with fail
  all_goals (
    go_ret
    refine ⟨?_, rfl⟩
    show Ending.returned (Value.int .i64 _) = Ending.returned (Value.int .i64 x)
    refine congrArg _ (congrArg _ ?_)
    have hx := HX.out
    unfold gap at hx
    omega)
set_option maxHeartbeats 1000000 in
theorem rLate_ok (a b : Int) (ha : Tm a) (hb : Tm b) (w : World) : Calls Try.prog 16 #[.int .i64 b, .int .i64 a] w fun e w' => e = .returned (.bool (decide (1000000 < gap a b))) ∧ w' = w := by
  have c := fun w => Lib.hid (rSince_ok a b ha hb w)
  clear ha hb
  generalize gap a b = x at *
  go_enter Try.func16, Try.ntmps16
  go_wp2_with fail
  refine (c _).out.mono ?_
  rintro e w1 ⟨rfl, rfl⟩
  go_wp2_with fail
  go_ret
  exact ⟨rfl, rfl⟩

set_option maxHeartbeats 2000000 in
theorem rAll_ok (A : Option Addr) (n c : Nat) (l : List Int) (w : World) (hm : IMem w A n l) (hn : n ≤ 9223372036854775807) (B : Bool) (hB : B = true ↔ ∀ x ∈ l, Tm x) :
    Calls Try.prog 13 #[.slice A n c] w fun e w' => e = .returned (.bool B) ∧ w' = w := by
  have H := Lib.hid hB
  clear hB
  go_enter Try.func13, Try.ntmps13
  go_wp2_with fail
  go_loop [7] (fun i => ∃ k : Nat, k ≤ n ∧ i = .int .i64 (k : Int) ∧ Hid (∀ j x, j < k → l[j]? = some x → Tm x)) (fun i => n - (intOf i).toNat)
  case atStart => exact ⟨0, by omega, rfl, Lib.hid (fun j x hj _ => absurd hj (by omega))⟩
  case round =>
    obtain ⟨k, hk, rfl, HK⟩ := hrel
    by_cases hlt : k < n
    · obtain ⟨b, off, y, rfl, hbl, hy, hdy, hiy, cy⟩ := hm.at_ hlt
      by_cases ht : Tm y
      · have cc := fun w => Lib.hid (rRight_yes y ht w)
        have HK' : Hid (∀ j x, j < k + 1 → l[j]? = some x → Tm x) := Lib.hid (fun j x hj hx => by
          by_cases hjk : j < k
          · exact HK.out j x hjk hx
          · obtain rfl : j = k := by omega
            rw [hy] at hx
            cases hx
            exact ht)
        clear hm hdy hy HK ht
        go_wp2_with fail
        refine (cc _).out.mono ?_
        rintro e w1 ⟨rfl, rfl⟩
        go_wp2_with fail
        go_round
        case rel => exact ⟨k + 1, by omega, by go_num, HK'⟩
        case measure => simp [intOf]; omega
      · have cc := fun w => Lib.hid (rRight_no y ht w)
        have hb : B = false := by
          cases B
          · rfl
          · exact absurd (H.out.1 rfl y (List.mem_of_getElem? hy)) ht
        subst hb
        clear hm hdy hy HK ht H
        go_wp2_with fail
        refine (cc _).out.mono ?_
        rintro e w1 ⟨rfl, rfl⟩
        go_wp2_with fail
        go_ret
        exact ⟨rfl, rfl⟩
    · obtain rfl : k = n := by omega
      have hb : B = true := H.out.2 (fun x hx => by
        obtain ⟨j, hj⟩ := List.getElem?_of_mem hx
        have hl := (List.getElem?_eq_some_iff.1 hj).1
        exact HK.out j x (by have := hm.1; omega) hj)
      subst hb
      clear hm HK H
      go_wp2_with fail
      go_ret
      exact ⟨rfl, rfl⟩

/-- The document's Spread, step by step: of one number with the first j, and of the first k with all. -/
def inn (l : List Int) (a o : Int) : Nat → Int
  | 0 => o
  | j + 1 => max (inn l a o j) (a - l.getD j 0)
def outr (l : List Int) (n : Nat) : Nat → Int
  | 0 => 0
  | k + 1 => inn l (l.getD k 0) (outr l n k) n
theorem inn_is (l : List Int) (a o : Int) : ∀ j, inn l a o (j + 1) = max o (a - mnk l (j + 1))
  | 0 => by
    show max o (a - l.getD 0 0) = max o (a - min (l.getD 0 0) (l.getD 0 0))
    omega
  | j + 1 => by
    have h := inn_is l a o j
    show max (inn l a o (j + 1)) (a - l.getD (j + 1) 0) = max o (a - min (mnk l (j + 1)) (l.getD (j + 1) 0))
    omega
theorem outr_is (l : List Int) (n : Nat) : ∀ k, outr l (n + 1) (k + 1) = gap (mnk l (n + 1)) (mxk l (k + 1))
  | 0 => by
    show inn l (l.getD 0 0) 0 (n + 1) = max 0 (max (l.getD 0 0) (l.getD 0 0) - mnk l (n + 1))
    rw [inn_is]
    omega
  | k + 1 => by
    have h := outr_is l n k
    show inn l (l.getD (k + 1) 0) (outr l (n + 1) (k + 1)) (n + 1) = max 0 (max (mxk l (k + 1)) (l.getD (k + 1) 0) - mnk l (n + 1))
    rw [inn_is, h]
    unfold gap
    omega
theorem inn_b (l : List Int) (a o : Int) (ha : Tm a) (ho : Tm o) : ∀ j, (∀ i, i < j → Tm (l.getD i 0)) → Tm (inn l a o j)
  | 0, _ => ho
  | j + 1, h => by
    have h1 := inn_b l a o ha ho j (fun i hi => h i (by omega))
    have h2 := h j (by omega)
    show Tm (max (inn l a o j) (a - l.getD j 0))
    unfold Tm at *
    omega
theorem outr_b (l : List Int) (n : Nat) (h : ∀ i, i < n → Tm (l.getD i 0)) : ∀ k, k ≤ n → Tm (outr l n k)
  | 0, _ => by show Tm 0; unfold Tm; omega
  | k + 1, hk => inn_b l _ _ (h k (by omega)) (outr_b l n h k (by omega)) n h

set_option maxHeartbeats 4000000 in
theorem rSpread_ok (A : Option Addr) (n c : Nat) (l : List Int) (w : World) (hm : IMem w A n l) (hn : n ≤ 9223372036854775807) (ht : ∀ i, i < n → Tm (l.getD i 0)) :
    Calls Try.prog 14 #[.slice A n c] w fun e w' => e = .returned (.int .i64 (outr l n n)) ∧ w' = w := by
  have HB := Lib.hid (outr_b l n ht)
  have HT := Lib.hid ht
  clear ht
  go_enter Try.func14, Try.ntmps14
  go_wp2_with fail
  go_loop [3, 10] (fun o i => ∃ k : Nat, k ≤ n ∧ i = .int .i64 (k : Int) ∧ o = .int .i64 (outr l n k)) (fun _ i => n - (intOf i).toNat)
  case atStart => exact ⟨0, by omega, rfl, rfl⟩
  case round =>
    obtain ⟨k, hk, rfl, rfl⟩ := hrel
    by_cases hlt : k < n
    · obtain ⟨b, off, x, rfl, hbl, hx, hdx, hix, cx⟩ := hm.at_ hlt
      have tx : Tm x := hdx ▸ HT.out k hlt
      have tO := HB.out k hk
      have eO : outr l n (k + 1) = inn l x (outr l n k) n := by rw [← hdx]; rfl
      have EO := Lib.hid eO
      clear eO hdx hx hix
      generalize outr l n k = O at *
      have HI := Lib.hid (inn_b l x O tx tO)
      go_wp2_with fail
      go_loop [3, 16] (fun o i => ∃ j : Nat, j ≤ n ∧ i = .int .i64 (j : Int) ∧ o = .int .i64 (inn l x O j)) (fun _ i => n - (intOf i).toNat)
      case atStart => exact ⟨0, by omega, rfl, rfl⟩
      case round =>
        obtain ⟨j, hj, rfl, rfl⟩ := hrel
        by_cases hjt : j < n
        · obtain ⟨b', off', y, hb', hbl', hy, hdy, hiy, cy⟩ := hm.at_ hjt
          obtain ⟨rfl, rfl⟩ : b = b' ∧ off = off' := by simpa using hb'
          have ty : Tm y := hdy ▸ HT.out j hjt
          have tI := HI.out j (fun i hi => HT.out i (by omega))
          have eI : inn l x O (j + 1) = max (inn l x O j) (x - y) := by rw [← hdy]; rfl
          have EI := Lib.hid eI
          clear eI hdy hy hiy hb' hbl'
          generalize inn l x O j = I at *
          clear hm
          unfold Tm at tx ty tO tI
          go_wp2_with fail
          all_goals (
            go_round
            case rel => exact ⟨j + 1, by omega, by go_num, by rw [EI.out]; exact congrArg _ (by first | omega | (split <;> omega))⟩
            case measure => simp [intOf]; omega)
        · obtain rfl : j = n := by omega
          clear hm
          go_wp2_with fail
          go_round
          case rel => exact ⟨k + 1, by omega, by go_num, by rw [EO.out]⟩
          case measure => simp [intOf]; omega
    · obtain rfl : k = n := by omega
      clear hm
      go_wp2_with fail
      go_ret
      exact ⟨rfl, rfl⟩

theorem open_introw {H : Type} {enc : TypeId × Value → H} {W : World} {base : Nat} {sp : Nat → Bool} {v : Value} {d : DataW H} {ps : List MemPlace}
    (hval : Value.okWide Try.prog W .any base 22 v) (h : DataW.Trod enc Try.prog W 0 sp true 22 v d ps) :
    ∃ (A : Option Addr) (n c : Nat) (l : List Int), v = .slice A n c ∧ n ≤ c ∧ n ≤ 9223372036854775807 ∧ IMem W A n l := by
  obtain ⟨a0, len, cap, rfl⟩ := okWide_slice Try.underlying22 hval
  obtain ⟨fuel, hf⟩ := h
  rcases open_ints Try.underlying22 Try.underlying3 cellsOfInt hf with ⟨hcs, hx⟩ | ⟨a, len', cap', zs, hcs, _, hl, hm, hz, hx, hcell, hwf⟩
  · simp [Value.cells] at hcs
    obtain ⟨rfl, rfl, rfl⟩ := hcs
    exact ⟨none, 0, 0, [], rfl, by omega, by omega, IMem.nil_⟩
  · simp [Value.cells] at hcs
    obtain ⟨rfl, rfl, rfl⟩ := hcs
    unfold maxLen at hm
    have hlz : len ≤ zs.length := by rw [hz]; split <;> omega
    refine ⟨some a, len, cap, zs.take len, rfl, hl, by omega, by rw [List.length_take]; omega, fun x hx => bounds_i64 (hwf x (List.mem_of_mem_take hx)), fun h0 => ?_⟩
    obtain ⟨b, off, spot⟩ := a
    have hspot : spot = none := by simpa [Addr.add] using World.cell?_spot (hcell 0 (by omega))
    subst hspot
    refine ⟨b, off, rfl, World.block_lt_of_cell? W _ (by simpa [Addr.add] using hcell 0 (by omega)), fun j u hu => ?_⟩
    rw [List.getElem?_take] at hu
    split at hu
    · rename_i hj
      have h1 := hcell j (by omega)
      rw [add_plain, List.getD_eq_getElem?_getD, hu] at h1
      exact h1
    · cases hu
end Go.Proofs.Ytkohcjcpmoallaa
