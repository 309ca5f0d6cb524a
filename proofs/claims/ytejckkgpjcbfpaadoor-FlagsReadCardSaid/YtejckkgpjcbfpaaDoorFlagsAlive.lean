/-
  Texts of unlike words are unlike; deadboltlaw03.alive.
-/
import Derived.Test.YtejckkgpjcbfpaaDoorFlagsText
namespace Go.Proofs.YtejckkgpjcbfpaaDoor
open Go.ChangeShapes Go.WideShapes Go.ChangeAt Go.RowKit
set_option linter.unusedVariables false

/-- What digits spell. -/
def dval (l : List UInt8) : Nat := l.foldl (fun acc c => acc * 10 + (c.toNat - 48)) 0
theorem dig_toNat {k : Nat} (h : k < 10) : (UInt8.ofNat (48 + k)).toNat = 48 + k := by
  rw [UInt8.toNat_ofNat_of_lt' (by show 48 + k < 256; omega)]
theorem dval_dec (u : Nat) : dval (Lib.decDigits u) = u := by
  induction u using Nat.strongRecOn with
  | ind u ih =>
    rw [Lib.decDigits]
    by_cases h : u < 10
    · rw [dif_pos h]
      show 0 * 10 + ((UInt8.ofNat (48 + u)).toNat - 48) = u
      rw [dig_toNat h]; omega
    · rw [dif_neg h]
      have h1 := ih (u / 10) (by omega)
      unfold dval at h1 ⊢
      rw [List.foldl_append, h1]
      show u / 10 * 10 + ((UInt8.ofNat (48 + u % 10)).toNat - 48) = u
      rw [dig_toNat (by omega)]; omega
theorem dec_inj {u v : Nat} (h : Lib.decDigits u = Lib.decDigits v) : u = v := by
  rw [← dval_dec u, ← dval_dec v, h]

/-- A flag's letter as a byte. -/
def lb (a : Bool) (x : UInt8) : UInt8 := if a then x else 45
theorem letS_data (a : Bool) (x : UInt8) : (letS a ⟨#[x]⟩).data.toList = [lb a x] := by cases a <;> rfl
theorem tx_data (a b c : Bool) (n : Int) : (tx a b c n).data.toList = lb a 76 :: lb b 87 :: lb c 83 :: Lib.decDigits n.toNat := by
  unfold tx
  simp only [ByteArray.data_append, Array.toList_append, letS_data]
  rfl
theorem lb_inj {a b : Bool} {x : UInt8} (hx : x ≠ 45) (h : lb a x = lb b x) : a = b := by
  cases a <;> cases b <;> simp_all [lb]
theorem tx_inj {a b c a' b' c' : Bool} {n n' : Int} (h : 0 ≤ n) (h' : 0 ≤ n') (e : tx a b c n = tx a' b' c' n') : a = a' ∧ b = b' ∧ c = c' ∧ n = n' := by
  have e1 : (tx a b c n).data.toList = (tx a' b' c' n').data.toList := by rw [e]
  rw [tx_data, tx_data] at e1
  injection e1 with h1 e2
  injection e2 with h2 e3
  injection e3 with h3 h4
  have := dec_inj h4
  exact ⟨lb_inj (by decide) h1, lb_inj (by decide) h2, lb_inj (by decide) h3, by omega⟩
theorem pw_inj {a b c a' b' c' : Bool} {n n' : Int} (e : pw a b c n = pw a' b' c' n') : a = a' ∧ b = b' ∧ c = c' ∧ n = n' := by
  unfold pw at e
  cases a <;> cases b <;> cases c <;> cases a' <;> cases b' <;> cases c' <;> simp [b1] at e <;> simp <;> omega
/-- Each word is that of flags. -/
theorem pw_of {v : Int} (h : 0 ≤ v ∧ v < 2147483648) : ∃ a b c n, v = pw a b c n ∧ 0 ≤ n ∧ n < 268435456 := by
  refine ⟨decide (v % 2 = 1), decide (v / 2 % 2 = 1), decide (v / 4 % 2 = 1), v / 8, ?_, by omega, by omega⟩
  unfold pw b1
  by_cases h1 : v % 2 = 1 <;> by_cases h2 : v / 2 % 2 = 1 <;> by_cases h3 : v / 4 % 2 = 1 <;> simp [h1, h2, h3] <;> omega
theorem tx29 : tx true false true 3 = ⟨#[76, 45, 83, 51]⟩ := by
  apply WideShapes.bytes_inj
  rw [tx_data, Lib.decDigits_one (by decide)]
  rfl

set_option maxHeartbeats 1000000 in
theorem alive3_ok (w : World) (ht : Tab w) : Calls Tryd.prog 11 #[] w fun e w' => e = .returned (.bool true) ∧ Gr w w' := by
  have c1 := fun w ht => Lib.hid (tx29 ▸ Text_ok true false true 3 (by decide) w ht)
  rw [show pw true false true 3 = 29 from by decide] at c1
  go_enter Tryd.func11, Tryd.ntmps11
  go_wp2_with fail
  refine (c1 _ ht).out.mono ?_
  rintro e w1 ⟨rfl, hb1⟩
  go_wp2_with fail
  go_ret
  exact ⟨rfl, hb1⟩
end Go.Proofs.YtejckkgpjcbfpaaDoor
