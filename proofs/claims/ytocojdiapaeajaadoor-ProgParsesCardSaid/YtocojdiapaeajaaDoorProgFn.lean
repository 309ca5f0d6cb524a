/-
  Package prog: which programs may be; whether acts are tidy; the words as a map.
-/
import Derived.Test.YtocojdiapaeajaaDoorProgMem
import Derived.Test.YtocojdiapaeajaaDoorProgMore
import Derived.Deep.RegionHeld3
import Derived.RegionTactic
import Derived.BigQuiet
import Derived.Deep.QuietTactic
namespace Go.Proofs.YtocojdiapaeajaaDoor
open Go.ChangeShapes Go.WideShapes Go.ChangeAt Go.RowKit
set_option linter.unusedVariables false
set_option linter.unusedSimpArgs false
namespace P12

theorem ret_bool {a b : Bool} (h : a = b) : Ending.returned (.bool a) = .returned (.bool b) := by rw [h]

set_option maxHeartbeats 2000000 in
theorem unfit_is {a : Ac} {B : Bool} (hB : okA a = B) (w : World) : Calls Tryd.prog 46 #[.agg #[.int .i64 a.1, .int .i64 a.2]] w fun e w' => e = .returned (.bool (!B)) ∧ Gr w w' := by
  obtain ⟨k, n⟩ := a
  have key : ∀ B', okA (k, n) = B' → Hid (B' = B) := fun B' h => Lib.hid (by rw [← h, hB])
  clear hB
  by_cases h4 : 0 ≤ k ∧ k ≤ 2
  · have e : k = 0 ∨ k = 1 ∨ k = 2 := by omega
    clear h4
    by_cases h0 : n < 0
    · have HB := key false (by unfold okA; rcases e with rfl | rfl | rfl <;> simp <;> omega)
      clear key
      rcases e with rfl | rfl | rfl <;> (
        go_enter Tryd.func46, Tryd.ntmps46
        go_wp2_with fail
        go_ret
        rw [← HB.out]
        exact ⟨rfl, (Gr.refl w).al _⟩)
    · by_cases h3 : n < 4
      · have HB := key true (by unfold okA; rcases e with rfl | rfl | rfl <;> simp <;> omega)
        have h3' : ¬ (4 : Int) ≤ n := by omega
        clear key
        rcases e with rfl | rfl | rfl <;> (
          go_enter Tryd.func46, Tryd.ntmps46
          go_wp2_with fail
          go_ret
          rw [← HB.out]
          exact ⟨rfl, (Gr.refl w).al _⟩)
      · have HB := key false (by unfold okA; rcases e with rfl | rfl | rfl <;> simp <;> omega)
        have h3' : (4 : Int) ≤ n := by omega
        clear key
        rcases e with rfl | rfl | rfl <;> (
          go_enter Tryd.func46, Tryd.ntmps46
          go_wp2_with fail
          go_ret
          rw [← HB.out]
          exact ⟨rfl, (Gr.refl w).al _⟩)
  · by_cases h5 : k = 3
    · subst h5
      by_cases h0 : n < 0
      · have HB := key false (by unfold okA; simp; omega)
        clear key
        go_enter Tryd.func46, Tryd.ntmps46
        go_wp2_with fail
        go_ret
        rw [← HB.out]
        exact ⟨rfl, (Gr.refl w).al _⟩
      · by_cases h3 : 1000 < n
        · have HB := key false (by unfold okA; simp; omega)
          clear key
          go_enter Tryd.func46, Tryd.ntmps46
          go_wp2_with fail
          go_ret
          rw [← HB.out]
          exact ⟨rfl, (Gr.refl w).al _⟩
        · have HB := key true (by unfold okA; simp; omega)
          clear key
          go_enter Tryd.func46, Tryd.ntmps46
          go_wp2_with fail
          go_ret
          rw [← HB.out]
          exact ⟨rfl, (Gr.refl w).al _⟩
    · have HB := key false (by unfold okA; rw [if_neg h5]; simp; omega)
      have e0 : (k == 0) = false := by simp; omega
      have e1 : (k == 1) = false := by simp; omega
      have e2 : (k == 2) = false := by simp; omega
      have e3 : (k == 3) = false := by simp; omega
      clear key h4 h5
      go_enter Tryd.func46, Tryd.ntmps46
      go_wp2_with fail
      go_ret
      rw [← HB.out]
      exact ⟨rfl, (Gr.refl w).al _⟩

/-- Where the first one stands that may not be, or -1. -/
def badAt {α : Type} (p : α → Bool) : List α → Nat → Int
  | [], _ => -1
  | x :: r, k => if p x then badAt p r (k + 1) else k
theorem badAt_is {α : Type} (p : α → Bool) (l : List α) : ∀ k : Nat, decide (0 ≤ badAt p l k) = !l.all p := by
  induction l with
  | nil => intro k; rfl
  | cons x r ih =>
    intro k
    unfold badAt
    cases hx : p x
    · simp [hx]
    · simp [hx, ih]
set_option maxHeartbeats 1000000 in
theorem IndexFunc_ok (A : Option Addr) (n c : Nat) (l : List Ac) (w : World) (hm : Mem w A n l) (hn : n ≤ 9223372036854775807) :
    Calls Tryd.prog 56 #[.slice A n c, .func (.func 46) #[] #[]] w fun e w' => e = .returned (.int .i64 (badAt okA l 0)) ∧ Gr w w' := by
  go_enter Tryd.func56, Tryd.ntmps56
  go_wp2_with fail
  go_loopw [8] (fun i wr => ∃ k : Nat, k ≤ n ∧ i = .int .i64 k ∧ Hid (badAt okA (l.drop k) k = badAt okA l 0) ∧ Gr w wr) (fun i _ => n - (intOf i).toNat)
  case atStart => exact ⟨0, Nat.zero_le _, rfl, Lib.hid rfl, Gr.refl _⟩
  case round =>
    obtain ⟨k, hk, rfl, HB, hg⟩ := hrel
    by_cases hlt : k < n
    · obtain ⟨b, off, x, rfl, hbl, hx, h1, h2, c0, c1⟩ := (hm.gr hg).at_ hlt
      have hd : l.drop k = x :: l.drop (k + 1) := by
        obtain ⟨hl, rfl⟩ := List.getElem?_eq_some_iff.1 hx
        exact List.drop_eq_getElem_cons hl
      cases hf : okA x
      · have hr : badAt okA l 0 = (k : Int) := by rw [← HB.out, hd]; simp [badAt, hf]
        have cc := fun w => Lib.hid (unfit_is hf w)
        have HR := Lib.hid hr
        clear hr hd hf hx HB hm
        go_wp2_with fail
        with_reducible refine (cc _).out.mono ?_
        rintro e w1 ⟨rfl, hb1⟩
        go_wp2_with fail
        go_ret
        rw [HR.out]
        exact ⟨rfl, hg.trans hb1⟩
      · have hr : Hid (badAt okA (l.drop (k + 1)) (k + 1) = badAt okA l 0) := Lib.hid (by rw [← HB.out, hd]; simp [badAt, hf])
        have cc := fun w => Lib.hid (unfit_is hf w)
        clear hd hf hx HB hm
        go_wp2_with fail
        with_reducible refine (cc _).out.mono ?_
        rintro e w1 ⟨rfl, hb1⟩
        go_wp2_with fail
        go_roundw
        case rel => exact ⟨k + 1, by omega, by go_num, hr, hg.trans hb1⟩
        case measure => simp [intOf]; omega
    · obtain rfl : k = n := by omega
      have hr : badAt okA l 0 = -1 := by rw [← HB.out, List.drop_of_length_le (by have := hm.1; omega)]; rfl
      have HR := Lib.hid hr
      clear hr HB hm
      go_wp2_with fail
      go_ret
      rw [HR.out]
      exact ⟨rfl, hg⟩
set_option maxHeartbeats 400000 in
theorem ContainsFunc_ok (A : Option Addr) (n c : Nat) (l : List Ac) (w : World) (hm : Mem w A n l) (hn : n ≤ 9223372036854775807) :
    Calls Tryd.prog 45 #[.slice A n c, .func (.func 46) #[] #[]] w fun e w' => e = .returned (.bool (!l.all okA)) ∧ Gr w w' := by
  have cc := fun w hm => Lib.hid (IndexFunc_ok A n c l w hm hn)
  have HB := Lib.hid (badAt_is okA l 0)
  generalize badAt okA l 0 = r at *
  go_enter Tryd.func45, Tryd.ntmps45
  go_wp2_with fail
  with_reducible refine (cc _ hm).out.mono ?_
  rintro e w1 ⟨rfl, hb1⟩
  go_wp2_with fail
  go_ret
  exact ⟨ret_bool HB.out, hb1⟩
/-- May a program be? -/
def okP (p : List Ac) : Bool := decide (p.length ≤ 64) && p.all okA
theorem rightB_okP (l : List (List Ac)) : rightB l = (decide (l.length ≤ 8) && l.all okP) := rfl
set_option maxHeartbeats 400000 in
theorem unfitProgram_is (x : PV) {B : Bool} (hB : okP x.l = B) (w : World) (hm : x.ok w) :
    Calls Tryd.prog 30 #[.slice x.A x.n x.c] w fun e w' => e = .returned (.bool (!B)) ∧ Gr w w' := by
  have hn := hm.lt
  obtain ⟨A, n, c, l⟩ := x
  have hm := hm.1
  dsimp only at hm hn hB ⊢
  by_cases h64 : n ≤ 64
  · have hr : l.all okA = B := by rw [← hB]; simp [okP, hm.1, h64]
    have cc := fun w hm => Lib.hid (ContainsFunc_ok A n c l w hm hn)
    have HR := Lib.hid hr
    clear hr hB
    generalize l.all okA = B' at *
    have h65 : ¬ 64 < n := by omega
    go_enter Tryd.func30, Tryd.ntmps30
    go_wp2_with fail
    with_reducible refine (cc _ hm).out.mono ?_
    rintro e w1 ⟨rfl, hb1⟩
    go_wp2_with fail
    go_ret
    rw [HR.out]
    exact ⟨ret_bool (by simp; intro h; omega), hb1⟩
  · have hr : false = B := by rw [← hB]; simp [okP, hm.1, h64]
    have HR := Lib.hid hr
    have h65 : 64 < n := by omega
    clear hr hB
    go_enter Tryd.func30, Tryd.ntmps30
    go_wp2_with fail
    go_ret
    rw [← HR.out]
    exact ⟨rfl, Gr.refl _⟩
def okV (x : PV) : Bool := okP x.l
set_option maxHeartbeats 1000000 in
theorem IndexFuncP_ok (A : Option Addr) (n c : Nat) (R : List PV) (w : World) (hm : PMem w A n R) (hn : n ≤ 9223372036854775807) :
    Calls Tryd.prog 44 #[.slice A n c, .func (.func 30) #[] #[]] w fun e w' => e = .returned (.int .i64 (badAt okV R 0)) ∧ Gr w w' := by
  go_enter Tryd.func44, Tryd.ntmps44
  go_wp2_with fail
  go_loopw [8] (fun i wr => ∃ k : Nat, k ≤ n ∧ i = .int .i64 k ∧ Hid (badAt okV (R.drop k) k = badAt okV R 0) ∧ Gr w wr) (fun i _ => n - (intOf i).toNat)
  case atStart => exact ⟨0, Nat.zero_le _, rfl, Lib.hid rfl, Gr.refl _⟩
  case round =>
    obtain ⟨k, hk, rfl, HB, hg⟩ := hrel
    by_cases hlt : k < n
    · obtain ⟨b, off, x, rfl, hbl, hx, ho, c0⟩ := (hm.gr hg).at_ hlt
      have hd : R.drop k = x :: R.drop (k + 1) := by
        obtain ⟨hl, rfl⟩ := List.getElem?_eq_some_iff.1 hx
        exact List.drop_eq_getElem_cons hl
      have cc := fun w hm B hf => Lib.hid (unfitProgram_is x (B := B) hf w hm)
      cases hf : okP x.l
      · have hr : badAt okV R 0 = (k : Int) := by rw [← HB.out, hd]; simp [badAt, okV, hf]
        have HR := Lib.hid hr
        have cc := fun w hm => cc w hm _ hf
        clear hr hd hf hx HB hm
        go_wp2_with fail
        with_reducible refine (cc _ ho).out.mono ?_
        rintro e w1 ⟨rfl, hb1⟩
        go_wp2_with fail
        go_ret
        rw [HR.out]
        exact ⟨rfl, hg.trans hb1⟩
      · have hr : Hid (badAt okV (R.drop (k + 1)) (k + 1) = badAt okV R 0) := Lib.hid (by rw [← HB.out, hd]; simp [badAt, okV, hf])
        have cc := fun w hm => cc w hm _ hf
        clear hd hf hx HB hm
        go_wp2_with fail
        with_reducible refine (cc _ ho).out.mono ?_
        rintro e w1 ⟨rfl, hb1⟩
        go_wp2_with fail
        go_roundw
        case rel => exact ⟨k + 1, by omega, by go_num, hr, hg.trans hb1⟩
        case measure => simp [intOf]; omega
    · obtain rfl : k = n := by omega
      have hr : badAt okV R 0 = -1 := by rw [← HB.out, List.drop_of_length_le (by have := hm.len; omega)]; rfl
      have HR := Lib.hid hr
      clear hr HB hm
      go_wp2_with fail
      go_ret
      rw [HR.out]
      exact ⟨rfl, hg⟩
set_option maxHeartbeats 400000 in
theorem ContainsFuncP_ok (A : Option Addr) (n c : Nat) (R : List PV) (w : World) (hm : PMem w A n R) (hn : n ≤ 9223372036854775807) :
    Calls Tryd.prog 29 #[.slice A n c, .func (.func 30) #[] #[]] w fun e w' => e = .returned (.bool (!R.all okV)) ∧ Gr w w' := by
  have cc := fun w hm => Lib.hid (IndexFuncP_ok A n c R w hm hn)
  have HB := Lib.hid (badAt_is okV R 0)
  generalize badAt okV R 0 = r at *
  go_enter Tryd.func29, Tryd.ntmps29
  go_wp2_with fail
  with_reducible refine (cc _ hm).out.mono ?_
  rintro e w1 ⟨rfl, hb1⟩
  go_wp2_with fail
  go_ret
  exact ⟨ret_bool HB.out, hb1⟩
set_option maxHeartbeats 400000 in
theorem Right_is {A : Option Addr} {n c : Nat} {R : List PV} {B : Bool} (hB : rightB (pl R) = B) (hn : n ≤ 9223372036854775807) (w : World) (hm : PMem w A n R) :
    Calls Tryd.prog 16 #[.slice A n c] w fun e w' => e = .returned (.bool B) ∧ Gr w w' := by
  have hall : (pl R).all okP = R.all okV := by unfold pl; rw [List.all_map]; rfl
  have hlen : (pl R).length = n := by unfold pl; rw [List.length_map, hm.len]
  rw [rightB_okP, hall, hlen] at hB
  by_cases h64 : n ≤ 8
  · have hr : R.all okV = B := by rw [← hB]; simp [h64]
    have cc := fun w hm => Lib.hid (ContainsFuncP_ok A n c R w hm hn)
    have HR := Lib.hid hr
    clear hr hB hall
    generalize R.all okV = B' at *
    go_enter Tryd.func16, Tryd.ntmps16
    go_wp2_with fail
    with_reducible refine (cc _ hm).out.mono ?_
    rintro e w1 ⟨rfl, hb1⟩
    go_wp2_with fail
    go_ret
    rw [← HR.out]
    exact ⟨ret_bool (by simp), hb1⟩
  · have hr : false = B := by rw [← hB]; simp [h64]
    have HR := Lib.hid hr
    have h65 : decide (n ≤ 8) = false := by simpa using h64
    clear hr hB hall
    go_enter Tryd.func16, Tryd.ntmps16
    go_wp2_with fail
    go_ret
    rw [← HR.out]
    exact ⟨rfl, Gr.refl _⟩

set_option maxHeartbeats 4000000 in
theorem Tidy_is {A : Option Addr} {n c : Nat} {l : List Ac} {B : Bool} (hB : tidyB l = B) (hn : n ≤ 9223372036854775807) (w : World) (hm : Mem w A n l) :
    Calls Tryd.prog 14 #[.slice A n c] w fun e w' => e = .returned (.bool B) ∧ Gr w w' := by
  have HB0 := Lib.hid (show (held (ho false 0) l == some none) = B from hB)
  clear hB
  go_enter Tryd.func14, Tryd.ntmps14
  go_wp2_with fail
  go_loopw [3, 4, 9] (fun b m i wr => ∃ (k : Nat) (v : Bool) (u : Int), k ≤ n ∧ b = .bool v ∧ m = .int .i64 u ∧ i = .int .i64 k ∧ Hid ((held (ho v u) (l.drop k) == some none) = B) ∧ Gr w wr) (fun _ _ i _ => n - (intOf i).toNat)
  case atStart => exact ⟨0, false, 0, Nat.zero_le _, rfl, rfl, rfl, HB0, Gr.refl _⟩
  case round =>
    obtain ⟨k, v, u, hk, rfl, rfl, rfl, HB, hg⟩ := hrel
    by_cases hlt : k < n
    · obtain ⟨b, off, x, rfl, hbl, hx, h1, h2, c0, c1⟩ := (hm.gr hg).at_ hlt
      have hd : l.drop k = x :: l.drop (k + 1) := by
        obtain ⟨hl, rfl⟩ := List.getElem?_eq_some_iff.1 hx
        exact List.drop_eq_getElem_cons hl
      have HK := HB.out
      rw [hd] at HK
      obtain ⟨x0, x1⟩ := x
      clear hd hx HB hm HB0
      dsimp only at c0 c1 h1 h2
      by_cases e1 : x0 = 1
      · rw [held_try e1] at HK
        have HK := Lib.hid HK
        subst e1
        go_wp2_with fail
        go_ret
        exact ⟨ret_bool HK.out, hg.al _⟩
      · have n1 : (x0 == 1) = false := by simpa using e1
        by_cases e0 : x0 = 0
        · cases v
          · rw [held_lock e0] at HK
            have HK := Lib.hid HK
            subst e0
            clear e1
            go_wp2_with fail
            go_quiet (fail)
            go_wp2_with fail
            go_roundw
            case rel => exact ⟨k + 1, true, _, by omega, rfl, rfl, by go_num, HK, (hg.al _).drN _⟩
            case measure => simp [intOf]; omega
          · rw [held_lock_no e0] at HK
            have HK := Lib.hid HK
            subst e0
            clear e1
            go_wp2_with fail
            go_ret
            exact ⟨ret_bool HK.out, hg.al _⟩
        · have n0 : (x0 == 0) = false := by simpa using e0
          by_cases e2 : x0 = 2
          · by_cases hv : v = true ∧ x1 = u
            · obtain ⟨rfl, rfl⟩ := hv
              rw [held_unlock (a := (x0, x1)) e2 rfl] at HK
              have HK := Lib.hid HK
              subst e2
              clear e0 e1
              go_wp2_with fail
              go_roundw
              case rel => exact ⟨k + 1, false, _, by omega, rfl, rfl, by go_num, HK, hg.al _⟩
              case measure => simp [intOf]; omega
            · rw [held_unlock_no e2 (by cases v; exact .inl rfl; exact .inr fun e => hv ⟨rfl, e⟩)] at HK
              have HK := Lib.hid HK
              subst e2
              clear e0 e1
              cases v
              · go_wp2_with fail
                go_ret
                exact ⟨ret_bool HK.out, hg.al _⟩
              · have hu : (x1 == u) = false := by simpa using fun e => hv ⟨rfl, e⟩
                have hu' : (x1 != u) = true := by simp [bne, hu]
                go_wp2_with fail
                go_ret
                exact ⟨ret_bool HK.out, hg.al _⟩
          · have n2 : (x0 == 2) = false := by simpa using e2
            rw [held_other e0 e1 e2] at HK
            have HK := Lib.hid HK
            clear e0 e1 e2
            go_wp2_with fail
            go_roundw
            case rel => exact ⟨k + 1, v, u, by omega, rfl, rfl, by go_num, HK, hg.al _⟩
            case measure => simp [intOf]; omega
    · obtain rfl : k = n := by omega
      have HK := HB.out
      rw [List.drop_of_length_le (by have := hm.1; omega), tidy_end] at HK
      have HK := Lib.hid HK
      clear HB hm HB0
      go_wp2_with fail
      go_ret
      exact ⟨rfl, hg⟩
end P12
end Go.Proofs.YtocojdiapaeajaaDoor
