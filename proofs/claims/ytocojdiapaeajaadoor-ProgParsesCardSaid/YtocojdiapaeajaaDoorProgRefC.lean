/-
  deadboltref12: a number, an act.
-/
import Derived.Test.YtocojdiapaeajaaDoorProgRefB
import Derived.Test.YtocojdiapaeajaaDoorProgParse
namespace Go.Proofs.YtocojdiapaeajaaDoor
open Go.ChangeShapes Go.WideShapes Go.ChangeAt Go.RowKit
set_option linter.unusedVariables false
set_option linter.unusedSimpArgs false
set_option maxRecDepth 100000
namespace P12

theorem byte_run (s : Bs) (k : Nat) (c : UInt8) (h : s[k]? = some c) (W : World) : (Instr.index 9 (.string (bs s)) (.int .i64 (k : Int))).run Tryd.prog W = .ok (.int .u8 (c.toNat : Int)) W := by
  obtain ⟨hk, hc⟩ := List.getElem?_eq_some_iff.1 h
  have hs : k < (bs s).size := by rw [bs_size]; exact hk
  rw [run_index_string W 9 (bs s) .i64 (k : Int) Tryd.underlying9, dif_pos ⟨by omega, by omega⟩]
  have e : (bs s)[k]'hs = c := by
    rw [← hc]
    show s.toArray[k]'(by simpa using hk) = _
    exact List.getElem_toArray ..
  show Result.ok (Value.int .u8 (((bs s)[(k : Int).toNat]'_).toNat : Int)) W = _
  congr 2
  simp only [Int.toNat_natCast]
  rw [e]
theorem dfold_snoc (l : Bs) (c : UInt8) : dfold 0 (l ++ [c]) = dfold 0 l * 10 + (c.toNat - 48) := by simp [dfold]
theorem NumR.digit {s : Bs} {n : Int} (h : NumR s n) : ∀ c ∈ s, 48 ≤ c.toNat ∧ c.toNat ≤ 57 := by
  obtain ⟨_, _, rfl⟩ := h
  exact dig_digits _
theorem NumR.val {s : Bs} {n : Int} (h : NumR s n) : n = (dfold 0 s : Int) := by
  obtain ⟨h0, _, rfl⟩ := h
  have := dval_dec n.toNat
  unfold dval at this
  unfold dgs dfold
  omega
/-- What number answers. -/
def NumE (s : Bs) (e : Ending) : Prop := ∃ (v : Int) (b : Bool), e = .returned (.tuple #[.int .i64 v, .bool b]) ∧ (b = true → NumR s v) ∧ (b = false → ¬ ∃ n, NumR s n)
theorem NumE.no {s : Bs} (h : ¬ ∃ n, NumR s n) {v : Int} : NumE s (.returned (.tuple #[.int .i64 v, .bool false])) := ⟨v, false, rfl, (by simp), fun _ => h⟩
set_option maxHeartbeats 4000000 in
theorem rnumber_is {s : Bs} (hs : s.length ≤ 9223372036854775807) (w : World) :
    Calls Tryd.prog 52 #[.string (bs s)] w fun e w' => NumE s e ∧ Gr w w' := by
  have hsz := bs_size s
  by_cases hl : 1 ≤ s.length ∧ s.length ≤ 6
  · obtain ⟨l1, l6⟩ := hl
    have z1 : ¬ ((bs s).size : Int) < 1 := by omega
    have z6 : ¬ (6 : Int) < ((bs s).size : Int) := by omega
    have H0 := Lib.hid (show ∀ c ∈ s.take 0, 48 ≤ c.toNat ∧ c.toNat ≤ 57 from by simp)
    go_enter Tryd.func52, Tryd.ntmps52
    go_wp2_with fail
    go_loop [4, 5] (fun n i => ∃ (k u : Nat), k ≤ s.length ∧ i = .int .i64 k ∧ n = .int .i64 u ∧ Hid (dfold 0 (s.take k) = u) ∧ u < 1000000 ∧ Hid (∀ c ∈ s.take k, 48 ≤ c.toNat ∧ c.toNat ≤ 57)) (fun _ i => s.length - (intOf i).toNat)
    case atStart => exact ⟨0, 0, Nat.zero_le _, rfl, rfl, Lib.hid rfl, by omega, H0⟩
    case round =>
      obtain ⟨k, u, hk, rfl, rfl, HU, hu, HD⟩ := hrel
      by_cases hlt : k < s.length
      · obtain ⟨c, hc⟩ : ∃ c, s[k]? = some c := ⟨_, List.getElem?_eq_getElem hlt⟩
        have hx := byte_run s k c hc
        have HC := Lib.hid hc
        have hmem := List.mem_of_getElem? hc
        have kz : (k : Int) < ((bs s).size : Int) := by omega
        have u0 : (0 : Int) ≤ (u : Int) := by omega
        have u1 : (u : Int) < 1000000 := by omega
        obtain ⟨x, hxc⟩ : ∃ x : Int, (c.toNat : Int) = x := ⟨_, rfl⟩
        have hxb : 0 ≤ x ∧ x ≤ 255 := by have := c.toNat_lt; omega
        rw [hxc] at hx
        have hno : (x < 48 ∨ 57 < x) → Hid (¬ ∃ n, NumR s n) := fun h => Lib.hid fun ⟨n, hn⟩ => by
          have := hn.digit c hmem
          omega
        obtain ⟨x0, x255⟩ := hxb
        have HXC := Lib.hid hxc
        clear hc hmem hxc
        by_cases g1 : x < 48
        · have HN := hno (.inl g1)
          clear hno
          go_wp2_with fail
          go_ret2
          exact ⟨NumE.no HN.out, Gr.refl _⟩
        · by_cases g2 : 57 < x
          · have HN := hno (.inr g2)
            clear hno
            go_wp2_with fail
            go_ret2
            exact ⟨NumE.no HN.out, Gr.refl _⟩
          · clear hno
            have hd2 : ∀ c ∈ s.take (k + 1), 48 ≤ c.toNat ∧ c.toNat ≤ 57 := by
              rw [take_more HC.out]
              intro c' hc'
              rcases List.mem_append.1 hc' with h | h
              · exact HD.out c' h
              · rw [List.mem_singleton] at h; subst h; have := HXC.out; omega
            have hv : dfold 0 (s.take (k + 1)) = u * 10 + (c.toNat - 48) := by rw [take_more HC.out, dfold_snoc, HU.out]
            have hlt6 : dfold 0 (s.take (k + 1)) < 1000000 := by
              have h1 := dfold_lt (s.take (k + 1)) 0 hd2
              have h2 : (s.take (k + 1)).length ≤ 6 := by rw [List.length_take]; omega
              have h3 : 10 ^ (s.take (k + 1)).length ≤ 10 ^ 6 := Nat.pow_le_pow_right (by omega) h2
              omega
            have HV := Lib.hid (show ((dfold 0 (s.take (k + 1)) : Nat) : Int) = 10 * (u : Int) + (x - 48) from by have := HXC.out; omega)
            have HD2 := Lib.hid hd2
            clear hd2 hv
            generalize hU : dfold 0 (s.take (k + 1)) = u2 at hlt6 HV
            have HU2 := Lib.hid hU
            clear hU
            go_wp2_with fail
            go_round
            case rel => exact ⟨k + 1, u2, by omega, by go_num, by rw [HV.out], HU2, hlt6, HD2⟩
            case measure => simp [intOf]; omega
      · obtain rfl : k = s.length := by omega
        have ht := HU.out
        have hd := HD.out
        rw [List.take_length] at ht hd
        have u0 : (0 : Int) ≤ (u : Int) := by omega
        have cd := fun w => Lib.hid (rdig_is (u : Int) (by omega) w)
        obtain ⟨E, hE⟩ : ∃ E, decide (dgs (u : Int) = s) = E := ⟨_, rfl⟩
        have hEq : ((bs (dgs (u : Int))).toList == (bs s).toList) = E := by rw [bs_eq, hE]
        have HY := Lib.hid (show E = true → NumR s u from fun h => by
          rw [h] at hE
          exact ⟨by omega, by omega, (of_decide_eq_true hE).symm⟩)
        have HN := Lib.hid (show E = false → ¬ ∃ n, NumR s n from fun h ⟨n, hn⟩ => by
          rw [h] at hE
          have e := hn.val
          rw [ht] at e
          subst e
          exact of_decide_eq_false hE hn.2.2.symm)
        clear hE ht hd HU HD
        go_wp2_with fail
        with_reducible refine (cd _).out.mono ?_
        rintro e w1 ⟨rfl, hb1⟩
        go_wp2_with fail
        go_ret2
        exact ⟨⟨u, E, rfl, HY.out, HN.out⟩, hb1⟩
  · have HN := Lib.hid (show ¬ ∃ n, NumR s n from fun ⟨n, h0, h1, h2⟩ => hl (by rw [h2]; exact dgs_len ⟨h0, h1⟩))
    by_cases h1 : s.length < 1
    · have z1 : ((bs s).size : Int) < 1 := by omega
      clear hl
      go_enter Tryd.func52, Tryd.ntmps52
      go_wp2_with fail
      go_ret2
      exact ⟨NumE.no HN.out, Gr.refl _⟩
    · have z1 : ¬ ((bs s).size : Int) < 1 := by omega
      have z6 : (6 : Int) < ((bs s).size : Int) := by omega
      clear hl
      go_enter Tryd.func52, Tryd.ntmps52
      go_wp2_with fail
      go_ret2
      exact ⟨NumE.no HN.out, Gr.refl _⟩
end P12
end Go.Proofs.YtocojdiapaeajaaDoor
