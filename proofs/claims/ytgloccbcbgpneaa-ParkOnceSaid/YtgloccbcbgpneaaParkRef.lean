/-
  deadboltref07, where package park's laws ask it; deadboltref11; what the laws of park share: few, alive.
-/
import Derived.Test.YtgloccbcbgpneaaParkAll
namespace Go.Proofs.Ytgloccbcbgpneaa
open Go.ChangeShapes Go.WideShapes Go.ChangeAt Go.RowKit
set_option linter.unusedVariables false
namespace P11

section
variable {w : World} {A B : Option Addr} {n c m d : Nat} {l r : List Int}
set_option maxHeartbeats 2000000 in
theorem rPlace_no (hm : IMem w A n l) (hn : n ≤ 9223372036854775807) {x : Int} (hx : x ∉ l) :
    Calls Try.prog 22 #[.slice A n c, .int .i64 x] w fun e w' => e = .returned (.int .i64 (-1)) ∧ w' = w := by
  have HX := Lib.hid hx
  have HM := Lib.hid hm
  clear hx hm
  go_enter Try.func22, Try.ntmps22
  go_wp2_with fail
  go_loop [9] (fun i => ∃ k : Nat, k ≤ n ∧ i = .int .i64 (k : Int)) (fun i => n - (intOf i).toNat)
  case atStart => exact ⟨0, by omega, rfl⟩
  case round =>
    obtain ⟨k, hk, rfl⟩ := hrel
    by_cases hlt : k < n
    · obtain ⟨b, off, y, rfl, hbl, hy, hiy, cy⟩ := HM.out.at_ hlt
      have ne : (y == x) = false := beq_eq_false_iff_ne.2 fun e => HX.out (e ▸ List.mem_of_getElem? hy)
      clear hy
      go_wp2_with fail
      go_round
      case rel => exact ⟨k + 1, by omega, by go_num⟩
      case measure => simp [intOf]; omega
    · obtain rfl : k = n := by omega
      go_wp2_with fail
      go_ret
      exact ⟨rfl, rfl⟩
set_option maxHeartbeats 2000000 in
theorem rPlace_at (hm : IMem w A n l) (hn : n ≤ 9223372036854775807) {x : Int} {p : Nat} (hp : l[p]? = some x) (hf : ∀ j, j < p → l[j]? ≠ some x) :
    Calls Try.prog 22 #[.slice A n c, .int .i64 x] w fun e w' => e = .returned (.int .i64 (p : Int)) ∧ w' = w := by
  have hpn : p < n := by rw [← hm.1]; exact (List.getElem?_eq_some_iff.1 hp).1
  have HP := Lib.hid hp
  have HF := Lib.hid hf
  have HM := Lib.hid hm
  clear hp hf hm
  go_enter Try.func22, Try.ntmps22
  go_wp2_with fail
  go_loop [9] (fun i => ∃ k : Nat, k ≤ p ∧ i = .int .i64 (k : Int)) (fun i => n - (intOf i).toNat)
  case atStart => exact ⟨0, by omega, rfl⟩
  case round =>
    obtain ⟨k, hk, rfl⟩ := hrel
    have hkn : k < n := by omega
    obtain ⟨b, off, y, rfl, hbl, hy, hiy, cy⟩ := HM.out.at_ hkn
    by_cases hlt : k < p
    · have ne : (y == x) = false := beq_eq_false_iff_ne.2 fun e => HF.out k hlt (e ▸ hy)
      clear hy
      go_wp2_with fail
      go_round
      case rel => exact ⟨k + 1, by omega, by go_num⟩
      case measure => simp [intOf]; omega
    · obtain rfl : k = p := by omega
      rw [HP.out] at hy
      cases hy
      go_wp2_with fail
      go_ret
      exact ⟨rfl, rfl⟩
theorem rPlace_any (hm : IMem w A n l) (hn : n ≤ 9223372036854775807) (x : Int) : ∃ p : Int, (p < 0 ↔ x ∉ l) ∧
    Calls Try.prog 22 #[.slice A n c, .int .i64 x] w fun e w' => e = .returned (.int .i64 p) ∧ w' = w := by
  by_cases hx : x ∈ l
  · obtain ⟨a, b, hab, ha⟩ : ∃ a b, l = a ++ x :: b ∧ x ∉ a := List.eq_append_cons_of_mem hx
    refine ⟨(a.length : Int), ⟨fun h => by omega, fun h => absurd hx h⟩, rPlace_at hm hn (by rw [hab]; simp) fun j hj e => ha ?_⟩
    rw [hab, List.getElem?_append_left hj] at e
    exact List.mem_of_getElem? e
  · exact ⟨-1, ⟨fun _ => hx, fun _ => by omega⟩, rPlace_no hm hn hx⟩
set_option maxHeartbeats 2000000 in
theorem rSame_is (hA : IMem w A n l) (hB : IMem w B m r) (hn : n ≤ 9223372036854775807) (hm : m ≤ 9223372036854775807) {v : Bool} (hv : v = true ↔ l = r) :
    Calls Try.prog 15 #[.slice A n c, .slice B m d] w fun e w' => e = .returned (.bool v) ∧ Gr w w' := by
  have HV := Lib.hid hv
  have HA := Lib.hid hA
  have HB := Lib.hid hB
  clear hA hB hv
  by_cases hnm : n = m
  · subst hnm
    go_enter Try.func15, Try.ntmps15
    go_wp2_with fail
    go_loopw [13] (fun i wr => ∃ k : Nat, k ≤ n ∧ i = .int .i64 k ∧ Hid (∀ j, j < k → l[j]? = r[j]?) ∧ Gr w wr) (fun i _ => n - (intOf i).toNat)
    case atStart => exact ⟨0, Nat.zero_le _, rfl, Lib.hid (fun j hj => absurd hj (by omega)), Gr.refl _⟩
    case round =>
      obtain ⟨k, hkn, rfl, HJ, hg⟩ := hrel
      by_cases hlt : k < n
      · obtain ⟨b, off, x, rfl, hbl, hx, hix, c0⟩ := (HA.out.gr hg).at_ hlt
        obtain ⟨b', off', x', rfl, hbl', hx', hix', c0'⟩ := (HB.out.gr hg).at_ hlt
        have k0 : (0 : Int) ≤ (k : Int) := by omega
        have k1 : (k : Int) < (n : Int) := by omega
        by_cases he : x = x'
        · subst he
          have HJ' : Hid (∀ j, j < k + 1 → l[j]? = r[j]?) := Lib.hid fun j hj => by
            by_cases h : j < k
            · exact HJ.out j h
            · obtain rfl : j = k := by omega
              rw [hx, hx']
          clear hx hx' HJ
          go_wp2_with fail
          go_quiet (fail)
          go_wp2_with fail
          go_roundw
          case rel => exact ⟨k + 1, by omega, by go_num, HJ', hg.drN _⟩
          case measure => simp [intOf]; omega
        · have ne : (x == x') = false := beq_eq_false_iff_ne.2 he
          obtain rfl : v = false := by
            cases v
            · rfl
            · have := HV.out.1 rfl
              rw [this, hx'] at hx
              exact absurd (Option.some.inj hx).symm he
          clear hx hx' HJ
          go_wp2_with fail
          go_quiet (fail)
          go_wp2_with fail
          go_ret
          exact ⟨rfl, hg.drN _⟩
      · obtain rfl : k = n := by omega
        obtain rfl : v = true := HV.out.2 (List.ext_getElem? fun j => by
          by_cases h : j < k
          · exact HJ.out j h
          · rw [List.getElem?_eq_none (by rw [HA.out.1]; omega), List.getElem?_eq_none (by rw [HB.out.1]; omega)])
        go_wp2_with fail
        go_ret
        exact ⟨rfl, hg⟩
  · obtain rfl : v = false := by
      cases v
      · rfl
      · have := HV.out.1 rfl
        have h1 := HA.out.1
        have h2 := HB.out.1
        rw [this] at h1
        omega
    have ne : ((n : Int) == (m : Int)) = false := beq_eq_false_iff_ne.2 (by omega)
    go_enter Try.func15, Try.ntmps15
    go_wp2_with fail
    go_ret
    exact ⟨rfl, Gr.refl _⟩
end

set_option maxHeartbeats 2000000 in
theorem rRight_ok (A : Option Addr) (n c : Nat) (l : List G) (w : World) (hm : GMem w A n l) (hn : n ≤ 9223372036854775807) :
    Calls Try.prog 13 #[.slice A n c] w fun e w' => e = .returned (.bool (rightB l)) ∧ Gr w w' := by
  go_enter Try.func13, Try.ntmps13
  go_wp2_with fail
  go_loopw [7] (fun i wr => ∃ k : Nat, k ≤ n ∧ i = .int .i64 k ∧ Hid ((l.drop k).all okG = l.all okG) ∧ Gr w wr) (fun i _ => n - (intOf i).toNat)
  case atStart => exact ⟨0, Nat.zero_le _, rfl, Lib.hid rfl, Gr.refl _⟩
  case round =>
    obtain ⟨k, hk, rfl, HB, hg⟩ := hrel
    by_cases hlt : k < n
    · obtain ⟨b, off, x, rfl, hbl, hx, h1, c0, c1⟩ := (hm.gr hg).at_ hlt
      have hd : l.drop k = x :: l.drop (k + 1) := by
        obtain ⟨hl, rfl⟩ := List.getElem?_eq_some_iff.1 hx
        exact List.drop_eq_getElem_cons hl
      have hne : b ≠ wr.heap.size := by omega
      cases hf : okG x
      · have hr : rightB l = false := by unfold rightB; rw [← HB.out, hd]; simp [hf]
        have HR := Lib.hid hr
        obtain ⟨s, p⟩ := x
        have hcase : s < 0 ∨ 2 < s ∨ (¬ s < 0 ∧ ¬ 2 < s ∧ s ≠ 0 ∧ p = true) := by
          by_cases a : s < 0
          · exact .inl a
          · by_cases b : 2 < s
            · exact .inr (.inl b)
            · refine .inr (.inr ⟨a, b, ?_, ?_⟩)
              · rintro rfl
                simp [okG] at hf
              · cases p
                · simp [okG] at hf; omega
                · rfl
        clear hr hd hf hx HB hm
        rcases hcase with h | h | ⟨h, h', h'', rfl⟩
        · go_wp2_with fail
          go_ret
          rw [HR.out]
          exact ⟨rfl, hg.al _⟩
        · have h0 : decide (s < 0) = false := by simp; omega
          go_wp2_with fail
          go_ret
          rw [HR.out]
          exact ⟨rfl, hg.al _⟩
        · have h3 : (s == 0) = false := beq_eq_false_iff_ne.2 h''
          go_wp2_with fail
          go_ret
          rw [HR.out]
          exact ⟨rfl, hg.al _⟩
      · have hr : Hid ((l.drop (k + 1)).all okG = l.all okG) := Lib.hid (by rw [← HB.out, hd]; simp [hf])
        obtain ⟨s, p⟩ := x
        have hcase : ¬ s < 0 ∧ ¬ 2 < s ∧ (s = 0 ∨ (s ≠ 0 ∧ p = false)) := by
          have hf' : ((0 ≤ s ∧ s ≤ 2) ∧ (p = false ∨ s = 0)) := by simpa [okG] using hf
          refine ⟨by omega, by omega, ?_⟩
          rcases hf'.2 with h | h
          · by_cases h0 : s = 0
            · exact .inl h0
            · exact .inr ⟨h0, h⟩
          · exact .inl h
        clear hd hf hx HB hm
        obtain ⟨h, h', h3⟩ := hcase
        rcases h3 with rfl | ⟨h3, rfl⟩
        · go_wp2_with fail
          go_roundw
          case rel => exact ⟨k + 1, by omega, by go_num, hr, hg.al _⟩
          case measure => simp [intOf]; omega
        · have h4 : (s == 0) = false := beq_eq_false_iff_ne.2 h3
          go_wp2_with fail
          go_roundw
          case rel => exact ⟨k + 1, by omega, by go_num, hr, hg.al _⟩
          case measure => simp [intOf]; omega
    · obtain rfl : k = n := by omega
      have hr : rightB l = decide (k ≤ 8) := by
        unfold rightB
        rw [← HB.out, List.drop_of_length_le (by have := hm.1; omega), hm.1]
        simp
      have HR := Lib.hid hr
      clear hr HB hm
      go_wp2_with fail
      go_ret
      rw [HR.out]
      exact ⟨ret_bool (decide_eq_decide.2 (by omega)), hg⟩
theorem rRight_is {A : Option Addr} {n c : Nat} {l : List G} {r : Bool} (hr : rightB l = r) (hn : n ≤ 9223372036854775807) (w : World) (hm : GMem w A n l) :
    Calls Try.prog 13 #[.slice A n c] w fun e w' => e = .returned (.bool r) ∧ Gr w w' := hr ▸ rRight_ok A n c l w hm hn

section
variable {A : Option Addr} {n c : Nat} {l : List G} {w : World}
set_option maxHeartbeats 400000 in
theorem Why_arg {a : Int} (hn : n ≤ 9223372036854775807) (hr : rightB l = false) (hm : GMem w A n l) :
    Calls Try.prog 17 #[.slice A n c, .int .i64 a] w fun e w' => e = .returned (.int .i64 1) ∧ Gr w w' := by
  have cc := Lib.hid (rRight_is (c := c) hr hn w hm)
  clear hr hm
  go_enter Try.func17, Try.ntmps17
  go_wp2_with fail
  refine cc.out.mono ?_
  rintro e w1 ⟨rfl, b1⟩
  go_wp2_with fail
  go_ret
  exact ⟨rfl, b1⟩
set_option maxHeartbeats 400000 in
theorem Why_range {a : Int} (hn : n ≤ 9223372036854775807) (hr : rightB l = true) (ha : a < 0 ∨ n ≤ a) (hm : GMem w A n l) :
    Calls Try.prog 17 #[.slice A n c, .int .i64 a] w fun e w' => e = .returned (.int .i64 3) ∧ Gr w w' := by
  have cc := Lib.hid (rRight_is (c := c) hr hn w hm)
  clear hr hm
  rcases ha with ha | ha
  · go_enter Try.func17, Try.ntmps17
    go_wp2_with fail
    refine cc.out.mono ?_
    rintro e w1 ⟨rfl, b1⟩
    go_wp2_with fail
    go_ret
    exact ⟨rfl, b1⟩
  · have h0 : decide (a < 0) = false := by simp; omega
    go_enter Try.func17, Try.ntmps17
    go_wp2_with fail
    refine cc.out.mono ?_
    rintro e w1 ⟨rfl, b1⟩
    go_wp2_with fail
    go_ret
    exact ⟨rfl, b1⟩
set_option maxHeartbeats 400000 in
theorem Why_ok {i : Nat} (hn : n ≤ 9223372036854775807) (hr : rightB l = true) (ha : i < n) (hm : GMem w A n l) :
    Calls Try.prog 17 #[.slice A n c, .int .i64 i] w fun e w' => e = .returned (.int .i64 0) ∧ Gr w w' := by
  have cc := Lib.hid (rRight_is (c := c) hr hn w hm)
  clear hr hm
  have hi0 : ¬ (i : Int) < 0 := by omega
  have hi1 : ¬ (n : Int) ≤ (i : Int) := by omega
  go_enter Try.func17, Try.ntmps17
  go_wp2_with fail
  refine cc.out.mono ?_
  rintro e w1 ⟨rfl, b1⟩
  go_wp2_with fail
  go_ret
  exact ⟨rfl, b1⟩
set_option maxHeartbeats 1000000 in
theorem rSame_true (A B : Option Addr) (n c d : Nat) (l : List G) (w : World) (hn : n ≤ 9223372036854775807) (hm : GMem w A n l) (hk : GMem w B n l) :
    Calls Try.prog 21 #[.slice A n c, .slice B n d] w fun e w' => e = .returned (.bool true) ∧ Gr w w' := by
  go_enter Try.func21, Try.ntmps21
  go_wp2_with fail
  go_loopw [13] (fun i wr => ∃ k : Nat, k ≤ n ∧ i = .int .i64 k ∧ Gr w wr) (fun i _ => n - (intOf i).toNat)
  case atStart => exact ⟨0, Nat.zero_le _, rfl, Gr.refl _⟩
  case round =>
    obtain ⟨k, hkn, rfl, hg⟩ := hrel
    by_cases hlt : k < n
    · obtain ⟨b, off, x, rfl, hbl, hx, h1, c0, c1⟩ := (hm.gr hg).at_ hlt
      obtain ⟨b', off', x', rfl, hbl', hx', h1', c0', c1'⟩ := (hk.gr hg).at_ hlt
      obtain rfl : x = x' := by rw [hx] at hx'; exact Option.some.inj hx'
      clear hx hx' hm hk
      have k0 : (0 : Int) ≤ (k : Int) := by omega
      have k1 : (k : Int) < (n : Int) := by omega
      obtain ⟨x1, x2⟩ := x
      go_wp2_with fail
      go_quiet (fail)
      go_wp2_with fail
      go_roundw
      case rel => exact ⟨k + 1, by omega, by go_num, hg.drN _⟩
      case measure => simp [intOf]; omega
    · obtain rfl : k = n := by omega
      go_wp2_with fail
      go_ret
      exact ⟨rfl, hg⟩
end
end P11
end Go.Proofs.Ytgloccbcbgpneaa
