/-
  Package flags: what Text answers.
-/
import Derived.Test.YtejckkgpjcbfpaaDoorFlagsLib
namespace Go.Proofs.YtejckkgpjcbfpaaDoor
open Go.ChangeShapes Go.WideShapes Go.ChangeAt Go.RowKit
set_option linter.unusedVariables false

/-- A number's digits. -/
def dgs (n : Int) : ByteArray := ⟨(Lib.decDigits n.toNat).toArray⟩
/-- The text of a word. -/
def tx (a b c : Bool) (n : Int) : ByteArray := letS a ⟨#[76]⟩ ++ letS b ⟨#[87]⟩ ++ letS c ⟨#[83]⟩ ++ dgs n

theorem letS_size (a : Bool) (x : UInt8) : (letS a ⟨#[x]⟩).size = 1 := by cases a <;> rfl
theorem dgs_size (n : Int) : (dgs n).size = Lib.nDigits n.toNat := by
  show (Lib.decDigits n.toNat).toArray.size = _
  rw [List.size_toArray, Lib.decDigits_length]
theorem nDigits_le : ∀ (k u : Nat), u < 10 ^ (k + 1) → Lib.nDigits u ≤ k + 1
  | 0, u, h => by rw [Lib.nDigits_small (by omega)]; omega
  | k + 1, u, h => by
    by_cases hu : u < 10
    · rw [Lib.nDigits_small hu]; omega
    · rw [Lib.nDigits_big hu]
      have := nDigits_le k (u / 10) (by rw [Nat.pow_succ] at h; omega)
      omega
theorem dgs_le {n : Int} (h : 0 ≤ n ∧ n < 268435456) : (dgs n).size ≤ 9 := by
  rw [dgs_size]
  exact nDigits_le 8 n.toNat (by omega)
theorem bsize_append (x y : ByteArray) : (x ++ y).size = x.size + y.size := ByteArray.size_append

set_option maxHeartbeats 2000000 in
theorem Text_ok (a b c : Bool) (n : Int) (h : 0 ≤ n ∧ n < 268435456) (w : World) (ht : Tab w) : Calls Tryd.prog 9 #[.int .i64 (pw a b c n)] w fun e w' => e = .returned (.tuple #[.string (tx a b c n), .int .i64 0]) ∧ Gr w w' := by
  have c1 := fun w => Lib.hid (Unpack_ok a b c n h w)
  have c2 := fun w ht => Lib.hid (Itoa_ok n h.1 (by omega) w ht)
  have l0 := fun w => Lib.hid (fletter_ok a ⟨#[76]⟩ w)
  have l1 := fun w => Lib.hid (fletter_ok b ⟨#[87]⟩ w)
  have l2 := fun w => Lib.hid (fletter_ok c ⟨#[83]⟩ w)
  have s0 := letS_size a 76
  have s1 := letS_size b 87
  have s2 := letS_size c 83
  have s3 := dgs_le h
  have HT := Lib.hid (show letS a ⟨#[76]⟩ ++ letS b ⟨#[87]⟩ ++ letS c ⟨#[83]⟩ ++ dgs n = tx a b c n from rfl)
  change ∀ w, Tab w → Hid (Calls Tryd.prog 23 #[.int .i64 n] w fun e w' => e = .returned (.string (dgs n)) ∧ Gr w w') at c2
  clear h
  generalize pw a b c n = v at *
  generalize tx a b c n = T at *
  generalize dgs n = D at *
  generalize letS a ⟨#[76]⟩ = A at *
  generalize letS b ⟨#[87]⟩ = B at *
  generalize letS c ⟨#[83]⟩ = C at *
  have hAB : (A ++ B).size = 2 := by rw [bsize_append]; omega
  have hABC : (A ++ B ++ C).size = 3 := by rw [bsize_append]; omega
  have k1 : ¬ 9223372036854775807 < A.size + B.size := by omega
  have k2 : ¬ 9223372036854775807 < (A ++ B).size + C.size := by omega
  have k3 : ¬ 9223372036854775807 < (A ++ B ++ C).size + D.size := by omega
  have k4 : ¬ 9223372036854775807 < A.size + B.size + C.size := by omega
  have k5 : ¬ 9223372036854775807 < A.size + B.size + C.size + D.size := by omega
  clear hAB hABC s0 s1 s2 s3
  go_enter Tryd.func9, Tryd.ntmps9
  go_wp2_with fail
  refine (c1 _).out.mono ?_
  rintro e w1 ⟨rfl, hb1⟩
  go_wp2_with fail
  have F := FlAt.new w1 a b c n 23
  have G := hb1.al (.cells #[.bool a, .bool b, .bool c, .int .i64 n] 23)
  have TT := ht.gr G
  obtain ⟨K, hK⟩ : ∃ k, w1.heap.size = k := ⟨_, rfl⟩
  obtain ⟨W, hW⟩ : ∃ W, w1.alloc (.cells #[.bool a, .bool b, .bool c, .int .i64 n] 23) = W := ⟨_, rfl⟩
  rw [hK] at F
  rw [hW] at F G TT
  simp only [hK, hW]
  clear hK hW hb1 ht
  go_region_held3 (fun w' => w'.cell? ⟨K, 0, none⟩ = some (.bool a) ∧ w'.cell? ⟨K, 1, none⟩ = some (.bool b) ∧ w'.cell? ⟨K, 2, none⟩ = some (.bool c) ∧ w'.cell? ⟨K, 3, none⟩ = some (.int .i64 n) ∧ K < w'.heap.size ∧ Gr w w' ∧ Tab w') (first | exact ⟨F.1, F.2.1, F.2.2.1, F.2.2.2.1, F.2.2.2.2, G.dr, TT.gr (Gr.refl W).dr⟩ | (go_split_ands; exact ⟨(hb2.cell (p := ⟨K, 0, none⟩) (by assumption)).trans (by assumption), (hb2.cell (p := ⟨K, 1, none⟩) (by assumption)).trans (by assumption), (hb2.cell (p := ⟨K, 2, none⟩) (by assumption)).trans (by assumption), (hb2.cell (p := ⟨K, 3, none⟩) (by assumption)).trans (by assumption), Nat.lt_of_lt_of_le (by assumption) hb2.size, Gr.trans (by assumption) hb2, Tab.gr (by assumption) hb2⟩))
    (first
      | (go_at_call 23; refine (c2 _ (by go_split_ands; assumption)).out.mono ?_; rintro ee w2 ⟨rfl, hb2⟩)
      | (go_at_call 22; refine (l0 _).out.mono ?_; rintro ee w2 ⟨rfl, rfl⟩)
      | (go_at_call 22; refine (l1 _).out.mono ?_; rintro ee w2 ⟨rfl, rfl⟩)
      | (go_at_call 22; refine (l2 _).out.mono ?_; rintro ee w2 ⟨rfl, rfl⟩))
  rename_i hH
  obtain ⟨q0, q1, q2, q3, q4, q5, q6⟩ := hH
  go_wp2_with fail
  go_ret2
  exact ⟨by rw [← HT.out]; rfl, q5⟩
set_option maxHeartbeats 1000000 in
theorem Text_no (v : Int) (h : ¬ (0 ≤ v ∧ v < 2147483648)) (w : World) : Calls Tryd.prog 9 #[.int .i64 v] w fun e w' => e = .returned (.tuple #[.string ⟨#[]⟩, .int .i64 1]) ∧ Gr w w' := by
  have c1 := fun w => Lib.hid (Unpack_no v h w)
  clear h
  go_enter Tryd.func9, Tryd.ntmps9
  go_wp2_with fail
  refine (c1 _).out.mono ?_
  rintro e w1 ⟨rfl, hb1⟩
  go_wp2_with fail
  go_ret2
  exact ⟨rfl, hb1.al _⟩
end Go.Proofs.YtejckkgpjcbfpaaDoor
