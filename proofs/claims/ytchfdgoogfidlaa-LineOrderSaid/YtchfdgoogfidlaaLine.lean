/-
  Package line: what its calls answer.
-/
import Derived.Test.YtchfdgoogfidlaaLineMath
import Derived.WalkMore
namespace Go.Proofs.Ytchfdgoogfidlaa
open Go.ChangeShapes Go.WideShapes Go.ChangeAt Go.RowKit
set_option linter.unusedVariables false

section
variable {w : World} {A : Option Addr} {n c : Nat} {l : List Int}
set_option maxHeartbeats 2000000 in
theorem Index_no (hm : IMem w A n l) (hn : n ≤ 9223372036854775807) {x : Int} (hx : x ∉ l) :
    Calls Try.prog 20 #[.slice A n c, .int .i64 x] w fun e w' => e = .returned (.int .i64 (-1)) ∧ w' = w := by
  have HX := Lib.hid hx
  have HM := Lib.hid hm
  clear hx hm
  go_enter Try.func20, Try.ntmps20
  go_wp2_with fail
  go_loop [8] (fun i => ∃ k : Nat, k ≤ n ∧ i = .int .i64 (k : Int)) (fun i => n - (intOf i).toNat)
  case atStart => exact ⟨0, by omega, rfl⟩
  case round =>
    obtain ⟨k, hk, rfl⟩ := hrel
    by_cases hlt : k < n
    · obtain ⟨b, off, y, rfl, hbl, hy, hiy, cy⟩ := HM.out.at_ hlt
      have ne : (x == y) = false := beq_eq_false_iff_ne.2 fun e => HX.out (e ▸ List.mem_of_getElem? hy)
      clear hy
      go_wp2_with fail
      go_round
      case rel => exact ⟨k + 1, by omega, by go_num⟩
      case measure => simp [intOf]; omega
    · obtain rfl : k = n := by omega
      go_wp2_with fail
      go_ret
      exact ⟨rfl, rfl⟩
set_option maxHeartbeats 2000000 in
theorem Index_at (hm : IMem w A n l) (hn : n ≤ 9223372036854775807) {x : Int} {p : Nat} (hp : l[p]? = some x) (hf : ∀ j, j < p → l[j]? ≠ some x) :
    Calls Try.prog 20 #[.slice A n c, .int .i64 x] w fun e w' => e = .returned (.int .i64 (p : Int)) ∧ w' = w := by
  have hpn : p < n := by rw [← hm.1]; exact (List.getElem?_eq_some_iff.1 hp).1
  have HP := Lib.hid hp
  have HF := Lib.hid hf
  have HM := Lib.hid hm
  clear hp hf hm
  go_enter Try.func20, Try.ntmps20
  go_wp2_with fail
  go_loop [8] (fun i => ∃ k : Nat, k ≤ p ∧ i = .int .i64 (k : Int)) (fun i => n - (intOf i).toNat)
  case atStart => exact ⟨0, by omega, rfl⟩
  case round =>
    obtain ⟨k, hk, rfl⟩ := hrel
    have hkn : k < n := by omega
    obtain ⟨b, off, y, rfl, hbl, hy, hiy, cy⟩ := HM.out.at_ hkn
    by_cases hlt : k < p
    · have ne : (x == y) = false := beq_eq_false_iff_ne.2 fun e => HF.out k hlt (e ▸ hy)
      clear hy
      go_wp2_with fail
      go_round
      case rel => exact ⟨k + 1, by omega, by go_num⟩
      case measure => simp [intOf]; omega
    · obtain rfl : k = p := by omega
      rw [HP.out] at hy
      cases hy
      go_wp2_with fail
      go_ret
      exact ⟨rfl, rfl⟩
set_option maxHeartbeats 4000000 in
theorem sound_is (hm : IMem w A n l) (hc : n ≤ c) (hn : n ≤ 9223372036854775807) :
    Calls Try.prog 21 #[.slice A n c] w fun e w' => (∃ k : Nat, e = .returned (.int .i64 (k : Int)) ∧ ((k = n ∧ Good l) ∨ (k < n ∧ ¬ Good l))) ∧ w' = w := by
  have HM := Lib.hid hm
  clear hm
  have hlen := HM.out.1
  go_enter Try.func21, Try.ntmps21
  go_wp2_with fail
  go_step3
  go_wp2_with fail
  go_step3
  go_wp2_with fail
  go_loop [3, 10] (fun N i => ∃ k : Nat, k ≤ n ∧ N = .int .i64 (k : Int) ∧ i = .int .i64 (k : Int) ∧ Hid (Good (l.take k))) (fun _ i => n - (intOf i).toNat)
  case atStart => exact ⟨0, by omega, rfl, rfl, Lib.hid (by simpa using Good.nil)⟩
  case round =>
    obtain ⟨k, hk, rfl, rfl, HG⟩ := hrel
    by_cases hlt : k < n
    · obtain ⟨b, off, x, rfl, hbl, hx, hix, cx⟩ := HM.out.at_ hlt
      have HX := Lib.hid hx
      clear hx
      by_cases h0 : x < 0
      · have hng : Hid (¬ Good l) := Lib.hid fun h => by have := h.1 x (List.mem_of_getElem? HX.out); omega
        go_wp2_with fail
        first | go_ret | (rw [Exit.noGoto_ret]; go_ret)
        exact ⟨⟨k, rfl, .inr ⟨hlt, hng.out⟩⟩, rfl⟩
      · have hkc : (k : Int) ≤ (c : Int) := by omega
        have hk0 : (0 : Int) ≤ (k : Int) := by omega
        go_wp2_with fail
        go_loop [20] (fun i => ∃ q : Nat, q ≤ k ∧ i = .int .i64 (q : Int) ∧ Hid (∀ j, j < q → l[j]? ≠ some x)) (fun i => k - (intOf i).toNat)
        case atStart => exact ⟨0, by omega, rfl, Lib.hid fun j hj => absurd hj (by omega)⟩
        case round =>
          obtain ⟨q, hq, rfl, HQ⟩ := hrel
          by_cases hqk : q < k
          · obtain ⟨b', off', y, hb', hbl', hy, hiy, cy⟩ := HM.out.at_ (show q < n by omega)
            cases hb'
            by_cases he : y = x
            · subst he
              have hng : Hid (¬ Good l) := Lib.hid (not_good_dup HX.out hy hqk)
              clear hy
              go_wp2_with fail
              first | go_ret | (rw [Exit.noGoto_ret]; go_ret)
              exact ⟨⟨k, rfl, .inr ⟨hlt, hng.out⟩⟩, rfl⟩
            · have ne : (y == x) = false := beq_eq_false_iff_ne.2 he
              have HQ' : Hid (∀ j, j < q + 1 → l[j]? ≠ some x) := Lib.hid fun j hj e => by
                by_cases h : j < q
                · exact HQ.out j h e
                · obtain rfl : j = q := by omega
                  rw [hy] at e; exact he (Option.some.inj e)
              clear hy
              go_wp2_with fail
              go_round
              case rel => exact ⟨q + 1, by omega, by go_num, HQ'⟩
              case measure => simp [intOf]; omega
          · obtain rfl : q = k := by omega
            have HG' : Hid (Good (l.take (q + 1))) := Lib.hid (by
              rw [take_more HX.out, good_app, good_one]
              refine ⟨HG.out, by omega, fun y hy hy1 => ?_⟩
              rw [List.mem_singleton] at hy1
              subst hy1
              exact (not_mem_take (by omega)).2 HQ.out hy)
            go_wp2_with fail
            go_round
            case rel => exact ⟨q + 1, by omega, by go_num, by go_num, HG'⟩
            case measure => simp [intOf]; omega
    · obtain rfl : k = n := by omega
      have hg := HG.out
      rw [← hlen, List.take_length] at hg
      go_wp2_with fail
      first | go_ret | (rw [Exit.noGoto_ret]; go_ret)
      exact ⟨⟨k, rfl, .inl ⟨rfl, hg⟩⟩, rfl⟩
set_option maxHeartbeats 1000000 in
theorem Right_is (hm : IMem w A n l) (hc : n ≤ c) (hn : n ≤ 9223372036854775807) {v : Bool} (hv : v = true ↔ Ln l) :
    Calls Try.prog 13 #[.slice A n c] w fun e w' => e = .returned (.bool v) ∧ w' = w := by
  have hlen := hm.1
  have HV := Lib.hid hv
  clear hv
  have k1 := Lib.hid (sound_is (c := c) hm hc hn)
  clear hm
  by_cases h : n ≤ 64
  · have h1 : (n : Int) ≤ 64 := by omega
    go_enter Try.func13, Try.ntmps13
    go_wp2_with fail
    refine k1.out.mono ?_
    rintro e w1 ⟨⟨k, rfl, hk⟩, rfl⟩
    have HV' : v = ((k : Int) == (n : Int)) := by
      rcases hk with ⟨rfl, hg⟩ | ⟨hk, hg⟩
      · rw [HV.out.2 ⟨by omega, hg⟩]; simp
      · rw [beq_eq_false_iff_ne.2 (by omega)]
        cases v
        · rfl
        · exact absurd (HV.out.1 rfl).2 hg
    subst HV'
    clear hk
    go_wp2_with fail
    go_ret
    exact ⟨rfl, rfl⟩
  · have h1 : ¬ (n : Int) ≤ 64 := by omega
    obtain rfl : v = false := by
      cases v
      · rfl
      · have := (HV.out.1 rfl).1; omega
    go_enter Try.func13, Try.ntmps13
    go_wp2_with fail
    go_ret
    exact ⟨rfl, rfl⟩
end
end Go.Proofs.Ytchfdgoogfidlaa
