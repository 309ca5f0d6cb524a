/-
  Package root: Root, sound, empty, ahead, own.
-/
import Derived.Test.YtmkkeknimpjfoaaRootMem
import Derived.Deep.RegionHeld3
import Derived.Deep.QuietTactic
import Derived.BigQuiet
namespace Go.Proofs.Ytmkkeknimpjfoaa
open Go.ChangeShapes Go.WideShapes Go.ChangeAt Go.RowKit
set_option linter.unusedVariables false

instance (a : Int) : Decidable (IsKey a) := by unfold IsKey; infer_instance
/-- Yes or no. -/
theorem yes_no (p : Prop) : ∃ b : Bool, (b = true ↔ p) := by
  by_cases h : p
  · exact ⟨true, by simp [h]⟩
  · exact ⟨false, by simp [h]⟩
/-- What Root answers: a root, and an error. -/
def rf (a : Int) : Int := if IsKey a then rt a else 0
def re (a : Int) : Int := if IsKey a then 0 else 1
theorem rf_key {a : Int} (h : IsKey a) : rf a = rt a := if_pos h
theorem re_key {a : Int} (h : IsKey a) : re a = 0 := if_pos h
theorem rf_no {a : Int} (h : ¬ IsKey a) : rf a = 0 := if_neg h
theorem re_no {a : Int} (h : ¬ IsKey a) : re a = 1 := if_neg h
set_option maxHeartbeats 1000000 in
theorem Root_is (a : Int) (w : World) : Calls Try.prog 46 #[.int .i64 a] w fun e w' => e = .returned (.tuple #[.int .i64 (rf a), .int .i64 (re a)]) ∧ w' = w := by
  by_cases h : IsKey a
  · rw [rf_key h, re_key h]
    have h1 : ¬ a < 0 := by have := h.1; omega
    have h2 : ¬ 4294967295 < a := by have := h.2; omega
    have h3 : a.tdiv 8 = a / 8 := Int.tdiv_eq_ediv_of_nonneg h.1
    have h4 : (a / 8).tmod 251 = rt a := by rw [Int.tmod_eq_emod_of_nonneg (by have := h.1; omega)]; rfl
    have h5 : IntKind.i64.wrap (a / 8) = a / 8 := wrap_id (by have := h.1; omega) (by have := h.2; omega)
    go_enter Try.func46, Try.ntmps46
    go_wp2_with fail
    go_ret2
    exact ⟨rfl, rfl⟩
  · rw [rf_no h, re_no h]
    by_cases h1 : a < 0
    · go_enter Try.func46, Try.ntmps46
      go_wp2_with fail
      go_ret2
      exact ⟨rfl, rfl⟩
    · have h2 : 4294967295 < a := by unfold IsKey at h; omega
      go_enter Try.func46, Try.ntmps46
      go_wp2_with fail
      go_ret2
      exact ⟨rfl, rfl⟩
section
variable {w : World} {A : Option Addr} {n c : Nat} {l : List Int} {a q : Int}
set_option maxHeartbeats 4000000 in
theorem rsound_is' (hm : IMem w A n l) (hc : n ≤ c) (hn : n ≤ 9223372036854775807) {v : Bool} (hv : v = true ↔ SOk ⟨a, q, A, n, c, l⟩) :
    Calls Try.prog 39 #[.agg #[.int .i64 a, .int .i64 q, .slice A n c]] w fun e w' => e = .returned (.bool v) ∧ Gr w w' := by
  have g0 := (Gr.refl w).al (.cells #[.int .i64 a, .int .i64 q, .slice A n c] 46)
  have hlen := hm.1
  have hR := fun W => Root_is a W
  obtain ⟨r, hr⟩ : ∃ r, rf a = r := ⟨_, rfl⟩
  rw [hr] at hR
  by_cases hk : IsKey a
  · rw [re_key hk] at hR
    have KR := Lib.hid hR
    clear hR hr
    obtain ⟨b, hb⟩ := yes_no (L7.Ln l)
    have KL := Lib.hid (L7.Right_is (c := c) (hm.gr g0) hc hn hb)
    by_cases h1 : 0 ≤ q
    · by_cases h2 : q ≤ 2147483647
      · cases b with
        | true =>
          have hl := hb.1 rfl
          clear hb
          by_cases h3 : q = 0
          · obtain rfl : v = true := hv.2 ⟨hk, h1, h2, hl, .inl h3⟩
            clear hv hk hm hl hlen
            subst h3
            go_enter Try.func39, Try.ntmps39
            go_wp2_with fail
            with_reducible refine (KR.out _).mono ?_
            rintro e w1 ⟨rfl, rfl⟩
            go_wp2_with fail
            with_reducible refine KL.out.mono ?_
            rintro e w1 ⟨rfl, rfl⟩
            go_wp2_with fail
            go_ret
            exact ⟨rfl, g0⟩
          · have h3' : (q == 0) = false := beq_eq_false_iff_ne.2 h3
            by_cases h4 : n = 0
            · obtain rfl : v = true := hv.2 ⟨hk, h1, h2, hl, .inr (List.eq_nil_of_length_eq_zero (show l.length = 0 from by omega))⟩
              clear hv hk hm hl hlen h3
              subst h4
              go_enter Try.func39, Try.ntmps39
              go_wp2_with fail
              with_reducible refine (KR.out _).mono ?_
              rintro e w1 ⟨rfl, rfl⟩
              go_wp2_with fail
              with_reducible refine KL.out.mono ?_
              rintro e w1 ⟨rfl, rfl⟩
              go_wp2_with fail
              go_ret
              exact ⟨rfl, g0⟩
            · obtain rfl : v = false := by
                cases v
                · rfl
                · rcases (hv.1 rfl).2.2.2.2 with h | h
                  · exact absurd h h3
                  · rw [show l = [] from h] at hlen; exact absurd hlen.symm h4
              have h4' : ((n : Int) == 0) = false := beq_eq_false_iff_ne.2 (by omega)
              clear hv hk hm hl hlen h3 h4
              go_enter Try.func39, Try.ntmps39
              go_wp2_with fail
              with_reducible refine (KR.out _).mono ?_
              rintro e w1 ⟨rfl, rfl⟩
              go_wp2_with fail
              with_reducible refine KL.out.mono ?_
              rintro e w1 ⟨rfl, rfl⟩
              go_wp2_with fail
              go_ret
              exact ⟨rfl, g0⟩
        | false =>
          obtain rfl : v = false := by
            cases v
            · rfl
            · exact absurd (hb.2 (hv.1 rfl).2.2.2.1) (by simp)
          clear hv hk hm hb hlen
          go_enter Try.func39, Try.ntmps39
          go_wp2_with fail
          with_reducible refine (KR.out _).mono ?_
          rintro e w1 ⟨rfl, rfl⟩
          go_wp2_with fail
          with_reducible refine KL.out.mono ?_
          rintro e w1 ⟨rfl, rfl⟩
          go_wp2_with fail
          go_ret
          exact ⟨rfl, g0⟩
      · obtain rfl : v = false := by
          cases v
          · rfl
          · exact absurd (hv.1 rfl).2.2.1 h2
        clear hv hk hm hb hlen KL
        go_enter Try.func39, Try.ntmps39
        go_wp2_with fail
        with_reducible refine (KR.out _).mono ?_
        rintro e w1 ⟨rfl, rfl⟩
        go_wp2_with fail
        go_ret
        exact ⟨rfl, g0⟩
    · obtain rfl : v = false := by
        cases v
        · rfl
        · exact absurd (hv.1 rfl).2.1 h1
      clear hv hk hm hb hlen KL
      go_enter Try.func39, Try.ntmps39
      go_wp2_with fail
      with_reducible refine (KR.out _).mono ?_
      rintro e w1 ⟨rfl, rfl⟩
      go_wp2_with fail
      go_ret
      exact ⟨rfl, g0⟩
  · rw [re_no hk] at hR
    have KR := Lib.hid hR
    clear hR hr
    obtain rfl : v = false := by
      cases v
      · rfl
      · exact absurd (hv.1 rfl).1 hk
    clear hv hk hm hlen
    by_cases h1 : 0 ≤ q
    · by_cases h2 : q ≤ 2147483647
      · go_enter Try.func39, Try.ntmps39
        go_wp2_with fail
        with_reducible refine (KR.out _).mono ?_
        rintro e w1 ⟨rfl, rfl⟩
        go_wp2_with fail
        go_ret
        exact ⟨rfl, g0⟩
      · go_enter Try.func39, Try.ntmps39
        go_wp2_with fail
        with_reducible refine (KR.out _).mono ?_
        rintro e w1 ⟨rfl, rfl⟩
        go_wp2_with fail
        go_ret
        exact ⟨rfl, g0⟩
    · go_enter Try.func39, Try.ntmps39
      go_wp2_with fail
      with_reducible refine (KR.out _).mono ?_
      rintro e w1 ⟨rfl, rfl⟩
      go_wp2_with fail
      go_ret
      exact ⟨rfl, g0⟩
theorem rsound_is {x : SV} (h : x.ok w) {v : Bool} (hv : v = true ↔ SOk x) :
    Calls Try.prog 39 #[.agg #[.int .i64 x.addr, .int .i64 x.cnt, .slice x.A x.n x.c]] w fun e w' => e = .returned (.bool v) ∧ Gr w w' :=
  rsound_is' h.2.2.1 h.2.2.2.1 h.lt hv
set_option maxHeartbeats 1000000 in
theorem empty_is' (hlen : l.length = n) {v : Bool} (hv : v = true ↔ SNil ⟨a, q, A, n, c, l⟩) (w : World) :
    Calls Try.prog 40 #[.agg #[.int .i64 a, .int .i64 q, .slice A n c]] w fun e w' => e = .returned (.bool v) ∧ Gr w w' := by
  have g0 := (Gr.refl w).al (.cells #[.int .i64 a, .int .i64 q, .slice A n c] 46)
  by_cases h3 : q = 0
  · by_cases h4 : n = 0
    · obtain rfl : v = true := hv.2 ⟨h3, List.eq_nil_of_length_eq_zero (show l.length = 0 from by omega)⟩
      clear hv hlen
      subst h3 h4
      go_enter Try.func40, Try.ntmps40
      go_wp2_with fail
      go_ret
      exact ⟨rfl, g0⟩
    · obtain rfl : v = false := by
        cases v
        · rfl
        · rw [show l = [] from (hv.1 rfl).2] at hlen; exact absurd hlen.symm h4
      have h4' : ((n : Int) == 0) = false := beq_eq_false_iff_ne.2 (by omega)
      clear hv hlen h4
      subst h3
      go_enter Try.func40, Try.ntmps40
      go_wp2_with fail
      go_ret
      exact ⟨rfl, g0⟩
  · obtain rfl : v = false := by
      cases v
      · rfl
      · exact absurd (hv.1 rfl).1 h3
    have h3' : (q == 0) = false := beq_eq_false_iff_ne.2 h3
    clear hv hlen h3
    go_enter Try.func40, Try.ntmps40
    go_wp2_with fail
    go_ret
    exact ⟨rfl, g0⟩
theorem empty_is {x : SV} (h : x.ok w) {v : Bool} (hv : v = true ↔ SNil x) (w' : World) :
    Calls Try.prog 40 #[.agg #[.int .i64 x.addr, .int .i64 x.cnt, .slice x.A x.n x.c]] w' fun e w'' => e = .returned (.bool v) ∧ Gr w' w'' :=
  empty_is' (l := x.line) h.len hv w'
set_option maxHeartbeats 1000000 in
theorem ahead_is {a b : Int} (ha : IsKey a) (hb : IsKey b) {v : Bool} (hv : v = true ↔ Lt a b) (w : World) :
    Calls Try.prog 41 #[.int .i64 a, .int .i64 b] w fun e w' => e = .returned (.bool v) ∧ w' = w := by
  have hA := fun W => Root_is a W
  have hB := fun W => Root_is b W
  rw [rf_key ha, re_key ha] at hA
  rw [rf_key hb, re_key hb] at hB
  unfold Lt at hv
  generalize rt a = r at *
  generalize rt b = s at *
  have KA := Lib.hid hA
  have KB := Lib.hid hB
  clear hA hB
  by_cases h1 : r < s
  · obtain rfl : v = true := hv.2 (.inl h1)
    clear hv
    go_enter Try.func41, Try.ntmps41
    go_wp2_with fail
    with_reducible refine (KA.out _).mono ?_
    rintro e w1 ⟨rfl, rfl⟩
    go_wp2_with fail
    with_reducible refine (KB.out _).mono ?_
    rintro e w1 ⟨rfl, rfl⟩
    go_wp2_with fail
    go_ret
    exact ⟨rfl, rfl⟩
  · by_cases h2 : r = s
    · subst h2
      by_cases h3 : a < b
      · obtain rfl : v = true := hv.2 (.inr ⟨rfl, h3⟩)
        clear hv
        go_enter Try.func41, Try.ntmps41
        go_wp2_with fail
        with_reducible refine (KA.out _).mono ?_
        rintro e w1 ⟨rfl, rfl⟩
        go_wp2_with fail
        with_reducible refine (KB.out _).mono ?_
        rintro e w1 ⟨rfl, rfl⟩
        go_wp2_with fail
        go_ret
        exact ⟨rfl, rfl⟩
      · obtain rfl : v = false := by
          cases v
          · rfl
          · have := hv.1 rfl; omega
        have h3' : decide (a < b) = false := decide_eq_false h3
        clear hv h3
        go_enter Try.func41, Try.ntmps41
        go_wp2_with fail
        with_reducible refine (KA.out _).mono ?_
        rintro e w1 ⟨rfl, rfl⟩
        go_wp2_with fail
        with_reducible refine (KB.out _).mono ?_
        rintro e w1 ⟨rfl, rfl⟩
        go_wp2_with fail
        go_ret
        exact ⟨rfl, rfl⟩
    · obtain rfl : v = false := by
        cases v
        · rfl
        · have := hv.1 rfl; omega
      have h2' : (r == s) = false := beq_eq_false_iff_ne.2 h2
      have h1' : decide (r < s) = false := decide_eq_false h1
      clear hv h2 h1
      go_enter Try.func41, Try.ntmps41
      go_wp2_with fail
      with_reducible refine (KA.out _).mono ?_
      rintro e w1 ⟨rfl, rfl⟩
      go_wp2_with fail
      with_reducible refine (KB.out _).mono ?_
      rintro e w1 ⟨rfl, rfl⟩
      go_wp2_with fail
      go_ret
      exact ⟨rfl, rfl⟩
end
end Go.Proofs.Ytmkkeknimpjfoaa
