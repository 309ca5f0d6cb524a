/-
  Package root: what it takes of package line (names of stage 7 and 8 part here, by a namespace of their own).
-/
import Derived.Test.YtmkkeknimpjfoaaInts
import Derived.WalkMore
import Derived.Deep.QuietTactic
namespace Go.Proofs.Ytmkkeknimpjfoaa.L7
open Go.ChangeShapes Go.WideShapes Go.ChangeAt Go.RowKit
set_option linter.unusedVariables false

/-- From 0 on, no two that are one. -/
def Good (l : List Int) : Prop := (∀ x ∈ l, 0 ≤ x) ∧ l.Nodup
/-- A line that may be. -/
def Ln (l : List Int) : Prop := l.length ≤ 64 ∧ Good l
theorem Good.nil : Good [] := ⟨by simp, List.nodup_nil⟩
theorem Ln.nil : Ln [] := ⟨by simp, Good.nil⟩
theorem good_app {a b : List Int} : Good (a ++ b) ↔ Good a ∧ Good b ∧ ∀ x ∈ a, x ∉ b := by
  unfold Good
  rw [List.nodup_append]
  constructor
  · rintro ⟨h1, h2, h3, h4⟩
    exact ⟨⟨fun x hx => h1 x (List.mem_append_left _ hx), h2⟩, ⟨fun x hx => h1 x (List.mem_append_right _ hx), h3⟩, fun x hx hb => h4 x hx x hb rfl⟩
  · rintro ⟨⟨h1, h2⟩, ⟨h3, h4⟩, h5⟩
    refine ⟨fun x hx => ?_, h2, h4, fun x hx y hy e => h5 x hx (e ▸ hy)⟩
    rcases List.mem_append.1 hx with h | h
    · exact h1 x h
    · exact h3 x h
theorem good_one {x : Int} : Good [x] ↔ 0 ≤ x := by simp [Good]
theorem good_cons {x : Int} {l : List Int} : Good (x :: l) ↔ 0 ≤ x ∧ x ∉ l ∧ Good l := by
  rw [show x :: l = [x] ++ l from rfl, good_app, good_one]
  simp only [List.mem_singleton, forall_eq]
  exact ⟨fun h => ⟨h.1, h.2.2, h.2.1⟩, fun h => ⟨h.1, h.2.2, h.2.1⟩⟩
theorem take_more {l : List Int} {k : Nat} {x : Int} (h : l[k]? = some x) : l.take (k + 1) = l.take k ++ [x] := by
  rw [List.take_add_one, h]; rfl
theorem take_drop_at {l : List Int} {k : Nat} {x : Int} (h : l[k]? = some x) : l = l.take k ++ x :: l.drop (k + 1) := by
  have hk := (List.getElem?_eq_some_iff.1 h).1
  have hx := (List.getElem?_eq_some_iff.1 h).2
  rw [← hx, ← List.drop_eq_getElem_cons hk, List.take_append_drop]
theorem good_take {l : List Int} (h : Good l) (k : Nat) : Good (l.take k) := by
  rw [← List.take_append_drop k l] at h
  exact (good_app.1 h).1
theorem not_mem_take {l : List Int} {k : Nat} {x : Int} (hk : k ≤ l.length) : x ∉ l.take k ↔ ∀ j, j < k → l[j]? ≠ some x := by
  constructor
  · intro h j hj e
    exact h (List.mem_iff_getElem?.2 ⟨j, by rw [List.getElem?_take, if_pos hj]; exact e⟩)
  · intro h hm
    obtain ⟨j, hj⟩ := List.mem_iff_getElem?.1 hm
    rw [List.getElem?_take] at hj
    split at hj
    · exact h j (by assumption) hj
    · cases hj
theorem not_good_dup {l : List Int} {k j : Nat} {x : Int} (h1 : l[k]? = some x) (h2 : l[j]? = some x) (hj : j < k) : ¬ Good l := by
  intro h
  rw [take_drop_at h1, good_app] at h
  exact h.2.2 x (List.mem_iff_getElem?.2 ⟨j, by rw [List.getElem?_take, if_pos hj]; exact h2⟩) (by simp)
theorem split_at {l : List Int} {x : Int} (h : x ∈ l) : ∃ a b, l = a ++ x :: b := by
  exact List.append_of_mem h
/-- With no other like it: the first place is the one. -/
theorem at_of {a b l : List Int} {x : Int} (hl : l = a ++ x :: b) (hg : Good l) : l[a.length]? = some x ∧ ∀ j, j < a.length → l[j]? ≠ some x := by
  subst hl
  refine ⟨by simp, fun j hj e => ?_⟩
  rw [List.getElem?_append_left hj] at e
  exact (good_app.1 hg).2.2 x (List.mem_iff_getElem?.2 ⟨j, e⟩) (by simp)

section
variable {w : World} {A : Option Addr} {n c : Nat} {l : List Int}
set_option maxHeartbeats 4000000 in
theorem sound_is (hm : IMem w A n l) (hc : n ≤ c) (hn : n ≤ 9223372036854775807) :
    Calls Try.prog 52 #[.slice A n c] w fun e w' => (∃ k : Nat, e = .returned (.int .i64 (k : Int)) ∧ ((k = n ∧ Good l) ∨ (k < n ∧ ¬ Good l))) ∧ w' = w := by
  have HM := Lib.hid hm
  clear hm
  have hlen := HM.out.1
  go_enter Try.func52, Try.ntmps52
  go_wp2_with fail
  go_step3
  go_wp2_with fail
  go_step3
  go_wp2_with fail
  go_loop [3, 10] (fun N i => ∃ k : Nat, k ≤ n ∧ N = .int .i64 (k : Int) ∧ i = .int .i64 (k : Int) ∧ Hid (Good (l.take k))) (fun _ i => n - (intOf i).toNat)
  case atStart => exact ⟨0, by omega, rfl, rfl, Lib.hid (by simpa using Good.nil)⟩
  case round =>
    obtain ⟨k, hk, rfl, rfl, HG⟩ := hrel
    by_cases hlt : k < n
    · obtain ⟨b, off, x, rfl, hbl, hx, hix, cx⟩ := HM.out.at_ hlt
      have HX := Lib.hid hx
      clear hx
      by_cases h0 : x < 0
      · have hng : Hid (¬ Good l) := Lib.hid fun h => by have := h.1 x (List.mem_of_getElem? HX.out); omega
        go_wp2_with fail
        first | go_ret | (rw [Exit.noGoto_ret]; go_ret)
        exact ⟨⟨k, rfl, .inr ⟨hlt, hng.out⟩⟩, rfl⟩
      · have hkc : (k : Int) ≤ (c : Int) := by omega
        have hk0 : (0 : Int) ≤ (k : Int) := by omega
        go_wp2_with fail
        go_loop [20] (fun i => ∃ q : Nat, q ≤ k ∧ i = .int .i64 (q : Int) ∧ Hid (∀ j, j < q → l[j]? ≠ some x)) (fun i => k - (intOf i).toNat)
        case atStart => exact ⟨0, by omega, rfl, Lib.hid fun j hj => absurd hj (by omega)⟩
        case round =>
          obtain ⟨q, hq, rfl, HQ⟩ := hrel
          by_cases hqk : q < k
          · obtain ⟨b', off', y, hb', hbl', hy, hiy, cy⟩ := HM.out.at_ (show q < n by omega)
            cases hb'
            by_cases he : y = x
            · subst he
              have hng : Hid (¬ Good l) := Lib.hid (not_good_dup HX.out hy hqk)
              clear hy
              go_wp2_with fail
              first | go_ret | (rw [Exit.noGoto_ret]; go_ret)
              exact ⟨⟨k, rfl, .inr ⟨hlt, hng.out⟩⟩, rfl⟩
            · have ne : (y == x) = false := beq_eq_false_iff_ne.2 he
              have HQ' : Hid (∀ j, j < q + 1 → l[j]? ≠ some x) := Lib.hid fun j hj e => by
                by_cases h : j < q
                · exact HQ.out j h e
                · obtain rfl : j = q := by omega
                  rw [hy] at e; exact he (Option.some.inj e)
              clear hy
              go_wp2_with fail
              go_round
              case rel => exact ⟨q + 1, by omega, by go_num, HQ'⟩
              case measure => simp [intOf]; omega
          · obtain rfl : q = k := by omega
            have HG' : Hid (Good (l.take (q + 1))) := Lib.hid (by
              rw [take_more HX.out, good_app, good_one]
              refine ⟨HG.out, by omega, fun y hy hy1 => ?_⟩
              rw [List.mem_singleton] at hy1
              subst hy1
              exact (not_mem_take (by omega)).2 HQ.out hy)
            go_wp2_with fail
            go_round
            case rel => exact ⟨q + 1, by omega, by go_num, by go_num, HG'⟩
            case measure => simp [intOf]; omega
    · obtain rfl : k = n := by omega
      have hg := HG.out
      rw [← hlen, List.take_length] at hg
      go_wp2_with fail
      first | go_ret | (rw [Exit.noGoto_ret]; go_ret)
      exact ⟨⟨k, rfl, .inl ⟨rfl, hg⟩⟩, rfl⟩
set_option maxHeartbeats 1000000 in
theorem Right_is (hm : IMem w A n l) (hc : n ≤ c) (hn : n ≤ 9223372036854775807) {v : Bool} (hv : v = true ↔ Ln l) :
    Calls Try.prog 42 #[.slice A n c] w fun e w' => e = .returned (.bool v) ∧ w' = w := by
  have hlen := hm.1
  have HV := Lib.hid hv
  clear hv
  have k1 := Lib.hid (sound_is (c := c) hm hc hn)
  clear hm
  by_cases h : n ≤ 64
  · have h1 : (n : Int) ≤ 64 := by omega
    go_enter Try.func42, Try.ntmps42
    go_wp2_with fail
    refine k1.out.mono ?_
    rintro e w1 ⟨⟨k, rfl, hk⟩, rfl⟩
    have HV' : v = ((k : Int) == (n : Int)) := by
      rcases hk with ⟨rfl, hg⟩ | ⟨hk, hg⟩
      · rw [HV.out.2 ⟨by omega, hg⟩]; simp
      · rw [beq_eq_false_iff_ne.2 (by omega)]
        cases v
        · rfl
        · exact absurd (HV.out.1 rfl).2 hg
    subst HV'
    clear hk
    go_wp2_with fail
    go_ret
    exact ⟨rfl, rfl⟩
  · have h1 : ¬ (n : Int) ≤ 64 := by omega
    obtain rfl : v = false := by
      cases v
      · rfl
      · have := (HV.out.1 rfl).1; omega
    go_enter Try.func42, Try.ntmps42
    go_wp2_with fail
    go_ret
    exact ⟨rfl, rfl⟩
end
section
variable {w : World} {A B : Option Addr} {n c m d : Nat} {l r : List Int}
set_option maxHeartbeats 2000000 in
theorem rPlace_no (hm : IMem w A n l) (hn : n ≤ 9223372036854775807) {x : Int} (hx : x ∉ l) :
    Calls Try.prog 18 #[.slice A n c, .int .i64 x] w fun e w' => e = .returned (.int .i64 (-1)) ∧ w' = w := by
  have HX := Lib.hid hx
  have HM := Lib.hid hm
  clear hx hm
  go_enter Try.func18, Try.ntmps18
  go_wp2_with fail
  go_loop [9] (fun i => ∃ k : Nat, k ≤ n ∧ i = .int .i64 (k : Int)) (fun i => n - (intOf i).toNat)
  case atStart => exact ⟨0, by omega, rfl⟩
  case round =>
    obtain ⟨k, hk, rfl⟩ := hrel
    by_cases hlt : k < n
    · obtain ⟨b, off, y, rfl, hbl, hy, hiy, cy⟩ := HM.out.at_ hlt
      have ne : (y == x) = false := beq_eq_false_iff_ne.2 fun e => HX.out (e ▸ List.mem_of_getElem? hy)
      clear hy
      go_wp2_with fail
      go_round
      case rel => exact ⟨k + 1, by omega, by go_num⟩
      case measure => simp [intOf]; omega
    · obtain rfl : k = n := by omega
      go_wp2_with fail
      go_ret
      exact ⟨rfl, rfl⟩
set_option maxHeartbeats 2000000 in
theorem rPlace_at (hm : IMem w A n l) (hn : n ≤ 9223372036854775807) {x : Int} {p : Nat} (hp : l[p]? = some x) (hf : ∀ j, j < p → l[j]? ≠ some x) :
    Calls Try.prog 18 #[.slice A n c, .int .i64 x] w fun e w' => e = .returned (.int .i64 (p : Int)) ∧ w' = w := by
  have hpn : p < n := by rw [← hm.1]; exact (List.getElem?_eq_some_iff.1 hp).1
  have HP := Lib.hid hp
  have HF := Lib.hid hf
  have HM := Lib.hid hm
  clear hp hf hm
  go_enter Try.func18, Try.ntmps18
  go_wp2_with fail
  go_loop [9] (fun i => ∃ k : Nat, k ≤ p ∧ i = .int .i64 (k : Int)) (fun i => n - (intOf i).toNat)
  case atStart => exact ⟨0, by omega, rfl⟩
  case round =>
    obtain ⟨k, hk, rfl⟩ := hrel
    have hkn : k < n := by omega
    obtain ⟨b, off, y, rfl, hbl, hy, hiy, cy⟩ := HM.out.at_ hkn
    by_cases hlt : k < p
    · have ne : (y == x) = false := beq_eq_false_iff_ne.2 fun e => HF.out k hlt (e ▸ hy)
      clear hy
      go_wp2_with fail
      go_round
      case rel => exact ⟨k + 1, by omega, by go_num⟩
      case measure => simp [intOf]; omega
    · obtain rfl : k = p := by omega
      rw [HP.out] at hy
      cases hy
      go_wp2_with fail
      go_ret
      exact ⟨rfl, rfl⟩
theorem rPlace_any (hm : IMem w A n l) (hn : n ≤ 9223372036854775807) (x : Int) : ∃ p : Int, (p < 0 ↔ x ∉ l) ∧
    Calls Try.prog 18 #[.slice A n c, .int .i64 x] w fun e w' => e = .returned (.int .i64 p) ∧ w' = w := by
  by_cases hx : x ∈ l
  · obtain ⟨a, b, hab, ha⟩ : ∃ a b, l = a ++ x :: b ∧ x ∉ a := List.eq_append_cons_of_mem hx
    refine ⟨(a.length : Int), ⟨fun h => by omega, fun h => absurd hx h⟩, rPlace_at hm hn (by rw [hab]; simp) fun j hj e => ha ?_⟩
    rw [hab, List.getElem?_append_left hj] at e
    exact List.mem_of_getElem? e
  · exact ⟨-1, ⟨fun _ => hx, fun _ => by omega⟩, rPlace_no hm hn hx⟩
set_option maxHeartbeats 4000000 in
theorem rRight_is (hm : IMem w A n l) (hc : n ≤ c) (hn : n ≤ 9223372036854775807) {v : Bool} (hv : v = true ↔ Ln l) :
    Calls Try.prog 44 #[.slice A n c] w fun e w' => e = .returned (.bool v) ∧ w' = w := by
  have hlen := hm.1
  have HM := Lib.hid hm
  have HV := Lib.hid hv
  clear hm hv
  go_enter Try.func44, Try.ntmps44
  go_wp2_with fail
  go_loop [7] (fun i => ∃ k : Nat, k ≤ n ∧ i = .int .i64 (k : Int) ∧ Hid (Good (l.take k))) (fun i => n - (intOf i).toNat)
  case atStart => exact ⟨0, by omega, rfl, Lib.hid (by simpa using Good.nil)⟩
  case round =>
    obtain ⟨k, hk, rfl, HG⟩ := hrel
    by_cases hlt : k < n
    · obtain ⟨b, off, x, rfl, hbl, hx, hix, cx⟩ := HM.out.at_ hlt
      have HX := Lib.hid hx
      clear hx
      by_cases h0 : x < 0
      · obtain rfl : v = false := by
          cases v
          · rfl
          · have := (HV.out.1 rfl).2.1 x (List.mem_of_getElem? HX.out); omega
        go_wp2_with fail
        go_ret
        exact ⟨rfl, rfl⟩
      · have hkc : (k : Int) ≤ (c : Int) := by omega
        have hk0 : (0 : Int) ≤ (k : Int) := by omega
        obtain ⟨p, hp, hC⟩ := rPlace_any (c := c) (HM.out.take_ k hk) (by omega) x
        have kC := Lib.hid hC
        clear hC
        by_cases hp0 : p < 0
        · have HG' : Hid (Good (l.take (k + 1))) := Lib.hid (by
            rw [take_more HX.out, good_app, good_one]
            refine ⟨HG.out, by omega, fun y hy hy1 => ?_⟩
            rw [List.mem_singleton] at hy1
            subst hy1
            exact hp.1 hp0 hy)
          have hp1 : ¬ 0 ≤ p := by omega
          clear hp
          go_wp2_with fail
          refine kC.out.mono ?_
          rintro e w1 ⟨rfl, rfl⟩
          go_wp2_with fail
          go_round
          case rel => exact ⟨k + 1, by omega, by go_num, HG'⟩
          case measure => simp [intOf]; omega
        · obtain rfl : v = false := by
            cases v
            · rfl
            · exfalso
              have hg := (HV.out.1 rfl).2
              have hmem : x ∈ l.take k := Classical.byContradiction fun h => hp0 (hp.2 h)
              obtain ⟨j, hj⟩ := List.mem_iff_getElem?.1 hmem
              rw [List.getElem?_take] at hj
              split at hj
              · exact not_good_dup HX.out hj (by assumption) hg
              · cases hj
          have hp1 : 0 ≤ p := by omega
          clear hp
          go_wp2_with fail
          refine kC.out.mono ?_
          rintro e w1 ⟨rfl, rfl⟩
          go_wp2_with fail
          go_ret
          exact ⟨rfl, rfl⟩
    · obtain rfl : k = n := by omega
      have hg := HG.out
      rw [← hlen, List.take_length] at hg
      obtain rfl : v = decide ((k : Int) ≤ 64) := by
        by_cases h : k ≤ 64
        · rw [HV.out.2 ⟨by omega, hg⟩, decide_eq_true (by omega)]
        · rw [decide_eq_false (by omega)]
          cases v
          · rfl
          · have := (HV.out.1 rfl).1; omega
      go_wp2_with fail
      go_ret
      exact ⟨rfl, rfl⟩
set_option maxHeartbeats 2000000 in
theorem rSame_is (hA : IMem w A n l) (hB : IMem w B m r) (hn : n ≤ 9223372036854775807) (hm : m ≤ 9223372036854775807) {v : Bool} (hv : v = true ↔ l = r) :
    Calls Try.prog 33 #[.slice A n c, .slice B m d] w fun e w' => e = .returned (.bool v) ∧ Gr w w' := by
  have HV := Lib.hid hv
  have HA := Lib.hid hA
  have HB := Lib.hid hB
  clear hA hB hv
  by_cases hnm : n = m
  · subst hnm
    go_enter Try.func33, Try.ntmps33
    go_wp2_with fail
    go_loopw [13] (fun i wr => ∃ k : Nat, k ≤ n ∧ i = .int .i64 k ∧ Hid (∀ j, j < k → l[j]? = r[j]?) ∧ Gr w wr) (fun i _ => n - (intOf i).toNat)
    case atStart => exact ⟨0, Nat.zero_le _, rfl, Lib.hid (fun j hj => absurd hj (by omega)), Gr.refl _⟩
    case round =>
      obtain ⟨k, hkn, rfl, HJ, hg⟩ := hrel
      by_cases hlt : k < n
      · obtain ⟨b, off, x, rfl, hbl, hx, hix, c0⟩ := (HA.out.gr hg).at_ hlt
        obtain ⟨b', off', x', rfl, hbl', hx', hix', c0'⟩ := (HB.out.gr hg).at_ hlt
        have k0 : (0 : Int) ≤ (k : Int) := by omega
        have k1 : (k : Int) < (n : Int) := by omega
        by_cases he : x = x'
        · subst he
          have HJ' : Hid (∀ j, j < k + 1 → l[j]? = r[j]?) := Lib.hid fun j hj => by
            by_cases h : j < k
            · exact HJ.out j h
            · obtain rfl : j = k := by omega
              rw [hx, hx']
          clear hx hx' HJ
          go_wp2_with fail
          go_quiet (fail)
          go_wp2_with fail
          go_roundw
          case rel => exact ⟨k + 1, by omega, by go_num, HJ', hg.drN _⟩
          case measure => simp [intOf]; omega
        · have ne : (x == x') = false := beq_eq_false_iff_ne.2 he
          obtain rfl : v = false := by
            cases v
            · rfl
            · have := HV.out.1 rfl
              rw [this, hx'] at hx
              exact absurd (Option.some.inj hx).symm he
          clear hx hx' HJ
          go_wp2_with fail
          go_quiet (fail)
          go_wp2_with fail
          go_ret
          exact ⟨rfl, hg.drN _⟩
      · obtain rfl : k = n := by omega
        obtain rfl : v = true := HV.out.2 (List.ext_getElem? fun j => by
          by_cases h : j < k
          · exact HJ.out j h
          · rw [List.getElem?_eq_none (by rw [HA.out.1]; omega), List.getElem?_eq_none (by rw [HB.out.1]; omega)])
        go_wp2_with fail
        go_ret
        exact ⟨rfl, hg⟩
  · obtain rfl : v = false := by
      cases v
      · rfl
      · have := HV.out.1 rfl
        have h1 := HA.out.1
        have h2 := HB.out.1
        rw [this] at h1
        omega
    have ne : ((n : Int) == (m : Int)) = false := beq_eq_false_iff_ne.2 (by omega)
    go_enter Try.func33, Try.ntmps33
    go_wp2_with fail
    go_ret
    exact ⟨rfl, Gr.refl _⟩
end
end Go.Proofs.Ytmkkeknimpjfoaa.L7
