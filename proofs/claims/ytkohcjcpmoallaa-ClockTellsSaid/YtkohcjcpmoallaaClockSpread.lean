/-
  Package clock: Spread, over the least and the greatest of a row of numbers.
-/
import Derived.Test.YtkohcjcpmoallaaClock
namespace Go.Proofs.Ytkohcjcpmoallaa
open Go.ChangeShapes Go.WideShapes Go.ChangeAt Go.RowKit
set_option linter.unusedVariables false

/-- A number that an int holds. -/
def Inb (v : Int) : Prop := -9223372036854775808 ≤ v ∧ v ≤ 9223372036854775807
/-- The slice at A, of n ints, reads as l. -/
def IMem (w : World) (A : Option Addr) (n : Nat) (l : List Int) : Prop :=
  l.length = n ∧ (∀ x ∈ l, Inb x) ∧ (0 < n → ∃ b off, A = some ⟨b, off, none⟩ ∧ b < w.heap.size ∧ ∀ j x, l[j]? = some x → w.cell? ⟨b, off + j, none⟩ = some (.int .i64 x))
section
variable {w w' : World} {A : Option Addr} {n : Nat} {l : List Int}
theorem IMem.nil_ : IMem w A 0 [] := ⟨rfl, by simp, fun h => absurd h (by omega)⟩
theorem IMem.gr (h : IMem w A n l) (g : Gr w w') : IMem w' A n l :=
  ⟨h.1, h.2.1, fun hn => by
    obtain ⟨b, off, e, hb, hc⟩ := h.2.2 hn
    exact ⟨b, off, e, Nat.lt_of_lt_of_le hb g.size, fun j u hu => (g.cell (p := ⟨b, off + j, none⟩) hb).trans (hc j u hu)⟩⟩
theorem IMem.at_ {k : Nat} (h : IMem w A n l) (hk : k < n) :
    ∃ b off x, A = some ⟨b, off, none⟩ ∧ b < w.heap.size ∧ l[k]? = some x ∧ l.getD k 0 = x ∧ Inb x ∧ w.cell? ⟨b, off + k, none⟩ = some (.int .i64 x) := by
  obtain ⟨b, off, e, hb, hc⟩ := h.2.2 (by omega)
  have hl : k < l.length := by have := h.1; omega
  have hx : l[k]? = some l[k] := List.getElem?_eq_getElem hl
  exact ⟨b, off, l[k], e, hb, hx, by rw [List.getD_eq_getElem?_getD, hx]; rfl, h.2.1 l[k] (List.getElem_mem hl), hc _ _ hx⟩
theorem IMem.take_ (h : IMem w A n l) (k : Nat) (hk : k ≤ n) : IMem w A k (l.take k) :=
  ⟨by rw [List.length_take, h.1]; omega, fun x hx => h.2.1 x (List.mem_of_mem_take hx), fun hn => by
    obtain ⟨b, off, e, hb, hc⟩ := h.2.2 (by omega)
    refine ⟨b, off, e, hb, fun j u hu => hc j u ?_⟩
    rw [List.getElem?_take] at hu
    split at hu
    · exact hu
    · cases hu⟩
end

/-- The least of the first k. -/
def mnk (l : List Int) : Nat → Int
  | 0 => l.getD 0 0
  | k + 1 => min (mnk l k) (l.getD k 0)
def mxk (l : List Int) : Nat → Int
  | 0 => l.getD 0 0
  | k + 1 => max (mxk l k) (l.getD k 0)

set_option maxHeartbeats 1000000 in
theorem Min_ok (A : Option Addr) (n c : Nat) (l : List Int) (w : World) (hm : IMem w A n l) (h0 : 0 < n) (hn : n ≤ 9223372036854775807) :
    Calls Try.prog 19 #[.slice A n c] w fun e w' => e = .returned (.int .i64 (mnk l n)) ∧ w' = w := by
  have h1 : ¬ ((n : Int) < 1) := by omega
  obtain ⟨b, off, x, rfl, hbl, hx, hd, hi, c0⟩ := hm.at_ h0
  rw [Nat.add_zero] at c0
  have e1 : mnk l 1 = x := by show min (l.getD 0 0) (l.getD 0 0) = x; rw [hd]; omega
  have E1 := Lib.hid e1
  clear e1 hd hx
  go_enter Try.func19, Try.ntmps19
  go_wp2_with fail
  go_loop [3, 4] (fun m i => ∃ k : Nat, 1 ≤ k ∧ k ≤ n ∧ i = .int .i64 (k : Int) ∧ m = .int .i64 (mnk l k)) (fun _ i => n - (intOf i).toNat)
  case atStart => exact ⟨1, by omega, by omega, rfl, by rw [E1.out]⟩
  case round =>
    obtain ⟨k, hk1, hk, rfl, rfl⟩ := hrel
    by_cases hlt : k < n
    · obtain ⟨b', off', y, hb', hbl', hy, hdy, hiy, cy⟩ := hm.at_ hlt
      obtain ⟨rfl, rfl⟩ : b = b' ∧ off = off' := by simpa using hb'
      have e2 : mnk l (k + 1) = min (mnk l k) y := by show min (mnk l k) (l.getD k 0) = _; rw [hdy]
      have E2 := Lib.hid e2
      generalize mnk l k = m at *
      clear e2 hm hdy hy E1
      go_wp2_with fail
      all_goals (
        go_round
        case rel => exact ⟨k + 1, by omega, by omega, by go_num, by rw [E2.out]; exact congrArg _ (by split <;> omega)⟩
        case measure => simp [intOf]; omega)
    · obtain rfl : k = n := by omega
      clear hm E1
      go_wp2_with fail
      go_ret
      exact ⟨rfl, rfl⟩
set_option maxHeartbeats 1000000 in
theorem Max_ok (A : Option Addr) (n c : Nat) (l : List Int) (w : World) (hm : IMem w A n l) (h0 : 0 < n) (hn : n ≤ 9223372036854775807) :
    Calls Try.prog 20 #[.slice A n c] w fun e w' => e = .returned (.int .i64 (mxk l n)) ∧ w' = w := by
  have h1 : ¬ ((n : Int) < 1) := by omega
  obtain ⟨b, off, x, rfl, hbl, hx, hd, hi, c0⟩ := hm.at_ h0
  rw [Nat.add_zero] at c0
  have e1 : mxk l 1 = x := by show max (l.getD 0 0) (l.getD 0 0) = x; rw [hd]; omega
  have E1 := Lib.hid e1
  clear e1 hd hx
  go_enter Try.func20, Try.ntmps20
  go_wp2_with fail
  go_loop [3, 4] (fun m i => ∃ k : Nat, 1 ≤ k ∧ k ≤ n ∧ i = .int .i64 (k : Int) ∧ m = .int .i64 (mxk l k)) (fun _ i => n - (intOf i).toNat)
  case atStart => exact ⟨1, by omega, by omega, rfl, by rw [E1.out]⟩
  case round =>
    obtain ⟨k, hk1, hk, rfl, rfl⟩ := hrel
    by_cases hlt : k < n
    · obtain ⟨b', off', y, hb', hbl', hy, hdy, hiy, cy⟩ := hm.at_ hlt
      obtain ⟨rfl, rfl⟩ : b = b' ∧ off = off' := by simpa using hb'
      have e2 : mxk l (k + 1) = max (mxk l k) y := by show max (mxk l k) (l.getD k 0) = _; rw [hdy]
      have E2 := Lib.hid e2
      generalize mxk l k = m at *
      clear e2 hm hdy hy E1
      go_wp2_with fail
      all_goals (
        go_round
        case rel => exact ⟨k + 1, by omega, by omega, by go_num, by rw [E2.out]; exact congrArg _ (by split <;> omega)⟩
        case measure => simp [intOf]; omega)
    · obtain rfl : k = n := by omega
      clear hm E1
      go_wp2_with fail
      go_ret
      exact ⟨rfl, rfl⟩

set_option maxHeartbeats 1000000 in
theorem Spread_nil (A : Option Addr) (c : Nat) (w : World) : Calls Try.prog 9 #[.slice A 0 c] w fun e w' => e = .returned (.tuple #[.int .i64 0, .int .i64 0]) ∧ Gr w w' := by
  go_enter Try.func9, Try.ntmps9
  go_wp2_with fail
  go_ret2
  exact ⟨rfl, Gr.refl _⟩
set_option maxHeartbeats 1000000 in
theorem Spread_is (A : Option Addr) (n c : Nat) (l : List Int) (w : World) (hm : IMem w A n l) (h0 : 0 < n) (hn : n ≤ 9223372036854775807) (r s : Int) (h : Ap (mnk l n) (mxk l n) r s) :
    Calls Try.prog 9 #[.slice A n c] w fun e w' => e = .returned (.tuple #[.int .i64 r, .int .i64 s]) ∧ Gr w w' := by
  have h1 : ¬ ((n : Int) = 0) := by omega
  have c1 := Lib.hid (Min_ok A n c l w hm h0 hn)
  have c2 := Lib.hid (Max_ok A n c l w hm h0 hn)
  have c3 := fun w => Lib.hid (apart_is h w)
  clear h hm
  go_enter Try.func9, Try.ntmps9
  go_wp2_with fail
  refine c1.out.mono ?_
  rintro e w1 ⟨rfl, rfl⟩
  go_wp2_with fail
  refine c2.out.mono ?_
  rintro e w1 ⟨rfl, rfl⟩
  go_wp2_with fail
  refine (c3 _).out.mono ?_
  rintro e w1 ⟨rfl, hb1⟩
  go_wp2_with fail
  go_ret2
  exact ⟨rfl, hb1⟩
set_option maxHeartbeats 2000000 in
theorem alive4_ok (w : World) : Calls Try.prog 12 #[] w fun e w' => e = .returned (.bool true) ∧ Gr w w' := by
  have c1 := fun w => Lib.hid (Late_is (a := 0) (b := 1000000) (r := 1000000) (s := 0) (.inl ⟨by unfold Tm; omega, by unfold Tm; omega, rfl, rfl⟩) false (by decide) w)
  have c2 := fun w => Lib.hid (Late_is (a := 0) (b := 1000001) (r := 1000001) (s := 0) (.inl ⟨by unfold Tm; omega, by unfold Tm; omega, rfl, rfl⟩) true (by decide) w)
  go_enter Try.func12, Try.ntmps12
  go_wp2_with fail
  refine (c1 _).out.mono ?_
  rintro e w1 ⟨rfl, hb1⟩
  go_wp2_with fail
  refine (c2 _).out.mono ?_
  rintro e w2 ⟨rfl, hb2⟩
  go_wp2_with fail
  go_ret
  exact ⟨rfl, hb1.trans hb2⟩
end Go.Proofs.Ytkohcjcpmoallaa
