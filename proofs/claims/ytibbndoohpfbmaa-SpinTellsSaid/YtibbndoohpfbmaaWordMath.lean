/-
  Package word: plain facts on words.
-/
import Derived.Test.YtibbndoohpfbmaaWord
namespace Go.Proofs.Ytibbndoohpfbmaa
open Go.RowKit

theorem wd_fits (k v : Int) (hk : 0 ≤ k ∧ k ≤ 2) : fitB k (wd k v) = true := by
  obtain rfl | rfl | rfl : k = 0 ∨ k = 1 ∨ k = 2 := by omega
  · simp [fitB, wd, wrap32]
  · simp [fitB, wd]
  · simp [fitB, wd]
theorem wd_idem (k v : Int) : wd k (wd k v) = wd k v := by
  unfold wd wrap32; split
  · omega
  · split <;> omega
theorem wd_b (k v : Int) (hv : -9223372036854775808 ≤ v ∧ v ≤ 9223372036854775807) : -9223372036854775808 ≤ wd k v ∧ wd k v ≤ 9223372036854775807 := by
  unfold wd wrap32; split
  · omega
  · split <;> omega
theorem wd_left (k a b : Int) : wd k (wrap64 (wd k a + b)) = wd k (wrap64 (a + b)) := by
  unfold wd wrap32 wrap64; split
  · omega
  · split <;> omega
theorem wd_w64l (k a b : Int) : wd k (wrap64 (wrap64 a + b)) = wd k (wrap64 (a + b)) := by
  unfold wd wrap32 wrap64; split
  · omega
  · split <;> omega
theorem wd_comm (k a b : Int) : wd k (wrap64 (a + b)) = wd k (wrap64 (b + a)) := by rw [Int.add_comm]
theorem wd_right (k a b : Int) : wd k (wrap64 (a + wd k b)) = wd k (wrap64 (a + b)) := by rw [wd_comm, wd_left, wd_comm]
theorem wd_w64r (k a b : Int) : wd k (wrap64 (a + wrap64 b)) = wd k (wrap64 (a + b)) := by rw [wd_comm, wd_w64l, wd_comm]
theorem wd_assoc (k a b c : Int) : wd k (wrap64 (wd k (wrap64 (a + b)) + c)) = wd k (wrap64 (a + wd k (wrap64 (b + c)))) := by
  rw [wd_left, wd_w64l, wd_right, wd_w64r, Int.add_assoc]
theorem wd_none (k a : Int) : wd k (wrap64 (a + wrap64 (-a))) = 0 := by
  rw [wd_w64r, Int.add_right_neg]
  unfold wd wrap32 wrap64; split
  · omega
  · split <;> omega
theorem mod3 (k : Int) : 0 ≤ (k.tmod 3 + 3).tmod 3 ∧ (k.tmod 3 + 3).tmod 3 ≤ 2 := by
  have h1 : -3 < k.tmod 3 := Int.lt_tmod_of_pos k (by omega)
  have h2 : k.tmod 3 < 3 := Int.tmod_lt_of_pos k (by omega)
  rw [Int.tmod_eq_emod_of_nonneg (by omega)]
  omega
theorem mod60 (n : Int) : 0 ≤ (wrap64 (n.tmod 60 + 60)).tmod 60 ∧ (wrap64 (n.tmod 60 + 60)).tmod 60 ≤ 59 := by
  have h1 : -60 < n.tmod 60 := Int.lt_tmod_of_pos n (by omega)
  have h2 : n.tmod 60 < 60 := Int.tmod_lt_of_pos n (by omega)
  rw [show wrap64 (n.tmod 60 + 60) = n.tmod 60 + 60 from by unfold wrap64; omega, Int.tmod_eq_emod_of_nonneg (by omega)]
  omega
/-- What j ones added to a come to. -/
def atN (k a : Int) (j : Nat) : Int := wd k (wrap64 (a + j))
theorem atN_zero (k a : Int) (ha : -9223372036854775808 ≤ a ∧ a ≤ 9223372036854775807) : atN k a 0 = wd k a := by
  unfold atN; rw [show a + ((0 : Nat) : Int) = a from by omega, IntWalk.wrap64_in a ha]
theorem atN_succ (k a : Int) (j : Nat) : wd k (wrap64 (atN k a j + 1)) = atN k a (j + 1) := by
  unfold atN; rw [wd_left, wd_w64l]; congr 2; omega
theorem atN_ne (k a : Int) (j : Nat) : atN k a (j + 1) ≠ atN k a j := by
  unfold atN wd wrap32 wrap64; split
  · omega
  · split <;> omega
theorem atN_b (k a : Int) (j : Nat) : -9223372036854775808 ≤ atN k a j ∧ atN k a j ≤ 9223372036854775807 := wd_b _ _ (wrap64_b _)
theorem atN_back (k a : Int) (j : Nat) (ha : -9223372036854775808 ≤ a ∧ a ≤ 9223372036854775807) : wd k (wrap64 (atN k a j + wrap64 (-(j : Int)))) = wd k a := by
  unfold atN
  rw [wd_left, wd_w64l, wd_w64r, show a + (j : Int) + -(j : Int) = a from by omega, IntWalk.wrap64_in a ha]
theorem atN_back' (k a : Int) (j : Nat) (ha : -9223372036854775808 ≤ a ∧ a ≤ 9223372036854775807) : wd k (wrap64 (atN k a j + -(j : Int))) = wd k a := by
  unfold atN
  rw [wd_left, wd_w64l, show a + (j : Int) + -(j : Int) = a from by omega, IntWalk.wrap64_in a ha]
theorem mod3' (k : Int) : 0 ≤ (wrap64 (k.tmod 3 + 3)).tmod 3 ∧ (wrap64 (k.tmod 3 + 3)).tmod 3 ≤ 2 := by
  have h1 : -3 < k.tmod 3 := Int.lt_tmod_of_pos k (by omega)
  have h2 : k.tmod 3 < 3 := Int.tmod_lt_of_pos k (by omega)
  rw [show wrap64 (k.tmod 3 + 3) = k.tmod 3 + 3 from by unfold wrap64; omega]
  exact mod3 k
theorem Add_is {k a b r : Int} (hr : wd k (wrap64 (a + b)) = r) (hk : 0 ≤ k ∧ k ≤ 2) (w : World) : Calls Try.prog 31 #[.int .i64 k, .int .i64 a, .int .i64 b] w fun e w' => e = .returned (.tuple #[.int .i64 r, .int .i64 0]) ∧ Gr w w' :=
  hr ▸ Add_ok k a b w hk
theorem Wrap_is {k v r : Int} (hr : wd k v = r) (hk : 0 ≤ k ∧ k ≤ 2) (hv : -9223372036854775808 ≤ v ∧ v ≤ 9223372036854775807) (w : World) : Calls Try.prog 18 #[.int .i64 k, .int .i64 v] w fun e w' => e = .returned (.tuple #[.int .i64 r, .int .i64 0]) ∧ Gr w w' :=
  hr ▸ Wrap_ok k v w hk hv
theorem Fits_is {k v : Int} {r : Bool} (hr : fitB k v = r) (hv : -9223372036854775808 ≤ v ∧ v ≤ 9223372036854775807) (w : World) : Calls Try.prog 25 #[.int .i64 k, .int .i64 v] w fun e w' => e = .returned (.bool r) ∧ Gr w w' :=
  hr ▸ Fits_ok k v w hv

end Go.Proofs.Ytibbndoohpfbmaa
