/-
  Proved: deadboltlaw02.CellOrder returns true at every input (accesses to two cells make no difference by their order). No condition.
-/
import Derived.Test.YtcfgkldlhlnniaaCellOrd
import Derived.Test.YtcfgkldlhlnniaaEnds
import Derived.Test.YtcfgkldlhlnniaaOpenCells
namespace Go.Proofs.Ytcfgkldlhlnniaa
open Go.ChangeShapes Go.WideShapes Go.ChangeAt Go.RowKit
set_option linter.unusedVariables false

section
variable {A : Option Addr} {n c : Nat} {l : List (Int × Int)} {w : World}

set_option maxHeartbeats 1000000 in
set_option maxRecDepth 100000 in
theorem order_main {i j : Nat} {x z : Int × Int} {v d : Int} (hn : n ≤ 9223372036854775807) (hc : n ≤ c) (hm0 : Mem w A (min n 70) l) (hr : rightB l = true) (hx : l[i]? = some x) (hz : l[j]? = some z) (hij : i ≠ j) (hv : Inb v) (hd : Inb d) :
    Calls Try.prog 5 #[.slice A n c, .int .i64 i, .int .i64 j, .int .i64 v, .int .i64 d] w fun e w' => e = .returned (.bool true) ∧ Gr w w' := by
  have hkx := fit_kind (right_fit hr hx)
  have hkz := fit_kind (right_fit hr hz)
  have c0 := fun w => Lib.hid (few_ok A n c w hn hc)
  obtain ⟨N, hN⟩ : ∃ N, min n 70 = N := ⟨_, rfl⟩
  simp only [hN] at c0 hm0
  clear hN
  obtain ⟨s, hs⟩ : ∃ s, wd z.1 (wrap64 (z.2 + d)) = s := ⟨_, rfl⟩
  obtain ⟨t, ht⟩ : ∃ t, wd x.1 v = t := ⟨_, rfl⟩
  have fs : fitB z.1 s = true := hs ▸ wd_fits _ _ hkz
  have ft : fitB x.1 t = true := ht ▸ wd_fits _ _ hkx
  have is_ : Inb s := hs ▸ wd_b _ _ (wrap64_b _)
  have c1 := fun w hm => Lib.hid (ht ▸ Swap_ok (A := A) (n := N) (c := c) (w := w) hr hx hv hm)
  have c2 := fun w hm => Lib.hid (hs ▸ Add2_ok (A := A) (n := N) (c := c) (d := d) (w := w) hr hz hm)
  have c3 := fun w B hm => Lib.hid (hs ▸ Add2_ok (A := B) (n := N) (c := N) (d := d) (l := l.set i (x.1, t)) (w := w) (right_set hr ft) (get_set_ne hij hz) hm)
  have c4 := fun w B hm => Lib.hid (ht ▸ Swap_ok (A := B) (n := N) (c := N) (l := l.set j (z.1, s)) (w := w) (right_set hr fs) (get_set_ne (Ne.symm hij) hx) hv hm)
  have c5 := fun w B hm => Lib.hid (Cas_hit (A := B) (n := N) (c := N) (l := (l.set i (x.1, t)).set j (z.1, s)) (i := j) (x := (z.1, s)) (old := s) (v := v) (w := w) (right_set (right_set hr ft) fs) (get_set_eq (get_set_ne hij hz)) is_ hv hm (fit_is fs))
  have c6 := fun w B D hm hk => Lib.hid (Same_true B D N N N ((l.set i (x.1, t)).set j (z.1, s)) w (by have := right_64 hr hm0; omega) hm hk)
  have hcomm : Hid ((l.set j (z.1, s)).set i (x.1, t) = (l.set i (x.1, t)).set j (z.1, s)) := Lib.hid (List.set_comm _ _ (Ne.symm hij))
  have h1 : ((i : Int) == (j : Int)) = false := by rw [beq_eq_false_iff_ne]; omega
  have h2 : (i == j) = false := by rw [beq_eq_false_iff_ne]; exact hij
  have H0 := Lib.hid hm0
  clear hm0 hr hx hz hs ht fs ft
  go_enter Try.func5, Try.ntmps5
  go_wp2_with fail
  refine (c0 _).out.mono ?_
  rintro e w0 ⟨rfl, b0⟩
  go_wp2_with fail
  refine (c1 _ (H0.out.gr b0)).out.mono ?_
  rintro e w1 ⟨g1, rfl, m1, b1⟩
  go_wp2_with fail
  refine (c2 _ (H0.out.gr (b0.trans b1))).out.mono ?_
  rintro e w2 ⟨g2, rfl, m2, b2⟩
  go_wp2_with fail
  refine (c3 _ _ (m1.gr b2)).out.mono ?_
  rintro e w3 ⟨g3, rfl, m3, b3⟩
  go_wp2_with fail
  refine (c4 _ _ (m2.gr b3)).out.mono ?_
  rintro e w4 ⟨g4, rfl, m4, b4⟩
  go_wp2_with fail
  refine (c5 _ _ (m3.gr b4)).out.mono ?_
  rintro e w5 ⟨g5, rfl, m5, b5⟩
  go_wp2_with fail
  refine (alive2_ok _).mono ?_
  rintro e w6 ⟨rfl, b6⟩
  go_wp2_with fail
  rw [hcomm.out] at m4
  refine (c6 _ _ _ (m3.gr (b4.trans (b5.trans b6))) (m4.gr (b5.trans b6))).out.mono ?_
  rintro e w7 ⟨rfl, b7⟩
  go_wp2_with fail
  go_ret
  exact ⟨rfl, b0.trans (b1.trans (b2.trans (b3.trans (b4.trans (b5.trans (b6.trans b7))))))⟩

/-- A call that answers something, a number, and the error e. -/
def GotAny (e1 : Int) (w : World) (e : Ending) (w' : World) : Prop := ∃ (V : Value) (t : Int), e = .returned (.tuple #[V, .int .i64 t, .int .i64 e1]) ∧ Gr w w'
theorem GotAny.of {m : Nat} {k : List (Int × Int)} {t : Int} {e : Ending} {w' : World} (h : GotMem w m k (.int .i64 t) e w') : GotAny 0 w e w' := by
  obtain ⟨g, rfl, _, b⟩ := h
  exact ⟨_, _, rfl, b⟩

theorem Swap_any {a v : Int} (hn : n ≤ 9223372036854775807) (hv : Inb v) : ∃ e1 : Int, (e1 = 0 ∨ e1 = 1 ∨ e1 = 3) ∧ (e1 = 0 → rightB l = true ∧ 0 ≤ a ∧ a < n) ∧ ∀ w, Mem w A n l → Calls Try.prog 10 #[.slice A n c, .int .i64 a, .int .i64 v] w (GotAny e1 w) := by
  cases hr : rightB l
  · exact ⟨1, by omega, by omega, fun w hm => (Swap_no (FindIs.arg hn hr) (.inl rfl) hm).mono fun e w' ⟨he, hb⟩ => ⟨_, _, he, hb⟩⟩
  · by_cases ha : a < 0 ∨ n ≤ a
    · exact ⟨3, by omega, by omega, fun w hm => (Swap_no (FindIs.range hn hr ha) (.inr rfl) hm).mono fun e w' ⟨he, hb⟩ => ⟨_, _, he, hb⟩⟩
    · refine ⟨0, by omega, fun _ => ⟨rfl, by omega, by omega⟩, fun w hm => ?_⟩
      obtain ⟨i, x, rfl, hx, _⟩ := get_in hm.1 (a := a) (by omega) (by omega)
      exact (Swap_ok hr hx hv hm).mono fun e w' h => GotAny.of h
theorem Add2_any {a v : Int} (hn : n ≤ 9223372036854775807) : ∃ e1 : Int, (e1 = 0 ∨ e1 = 1 ∨ e1 = 3) ∧ (e1 = 0 → rightB l = true ∧ 0 ≤ a ∧ a < n) ∧ ∀ w, Mem w A n l → Calls Try.prog 9 #[.slice A n c, .int .i64 a, .int .i64 v] w (GotAny e1 w) := by
  cases hr : rightB l
  · exact ⟨1, by omega, by omega, fun w hm => (Add2_no (FindIs.arg hn hr) (.inl rfl) hm).mono fun e w' ⟨he, hb⟩ => ⟨_, _, he, hb⟩⟩
  · by_cases ha : a < 0 ∨ n ≤ a
    · exact ⟨3, by omega, by omega, fun w hm => (Add2_no (FindIs.range hn hr ha) (.inr rfl) hm).mono fun e w' ⟨he, hb⟩ => ⟨_, _, he, hb⟩⟩
    · refine ⟨0, by omega, fun _ => ⟨rfl, by omega, by omega⟩, fun w hm => ?_⟩
      obtain ⟨i, x, rfl, hx, _⟩ := get_in hm.1 (a := a) (by omega) (by omega)
      exact (Add2_ok hr hx hm).mono fun e w' h => GotAny.of h
set_option maxHeartbeats 1000000 in
set_option maxRecDepth 100000 in
theorem order_11 {a b v d : Int} {N : Nat} (c0 : ∀ w, Hid (Calls Try.prog 6 #[.slice A n c] w fun e w' => e = .returned (.slice A N c) ∧ Gr w w')) (H0 : Hid (Mem w A N l))
    (c1 : ∀ w, Mem w A N l → Calls Try.prog 10 #[.slice A N c, .int .i64 a, .int .i64 v] w (GotAny 1 w))
    (c2 : ∀ w, Mem w A N l → Calls Try.prog 9 #[.slice A N c, .int .i64 b, .int .i64 d] w (GotAny 1 w)) :
    Calls Try.prog 5 #[.slice A n c, .int .i64 a, .int .i64 b, .int .i64 v, .int .i64 d] w fun e w' => e = .returned (.bool true) ∧ Gr w w' := by
  go_enter Try.func5, Try.ntmps5
  go_wp2_with fail
  refine (c0 _).out.mono ?_
  rintro e w0 ⟨rfl, b0⟩
  go_wp2_with fail
  refine (c1 _ (H0.out.gr b0)).mono ?_
  rintro e w1 ⟨V1, t1, rfl, b1⟩
  go_wp2_with fail
  refine (c2 _ (H0.out.gr (b0.trans b1))).mono ?_
  rintro e w2 ⟨V2, t2, rfl, b2⟩
  go_wp2_with fail
  refine (alive2_ok _).mono ?_
  rintro e w3 ⟨rfl, b3⟩
  go_wp2_with fail
  go_ret
  exact ⟨rfl, b0.trans (b1.trans (b2.trans b3))⟩
set_option maxHeartbeats 1000000 in
set_option maxRecDepth 100000 in
theorem order_13 {a b v d : Int} {N : Nat} (c0 : ∀ w, Hid (Calls Try.prog 6 #[.slice A n c] w fun e w' => e = .returned (.slice A N c) ∧ Gr w w')) (H0 : Hid (Mem w A N l))
    (c1 : ∀ w, Mem w A N l → Calls Try.prog 10 #[.slice A N c, .int .i64 a, .int .i64 v] w (GotAny 1 w))
    (c2 : ∀ w, Mem w A N l → Calls Try.prog 9 #[.slice A N c, .int .i64 b, .int .i64 d] w (GotAny 3 w)) :
    Calls Try.prog 5 #[.slice A n c, .int .i64 a, .int .i64 b, .int .i64 v, .int .i64 d] w fun e w' => e = .returned (.bool true) ∧ Gr w w' := by
  go_enter Try.func5, Try.ntmps5
  go_wp2_with fail
  refine (c0 _).out.mono ?_
  rintro e w0 ⟨rfl, b0⟩
  go_wp2_with fail
  refine (c1 _ (H0.out.gr b0)).mono ?_
  rintro e w1 ⟨V1, t1, rfl, b1⟩
  go_wp2_with fail
  refine (c2 _ (H0.out.gr (b0.trans b1))).mono ?_
  rintro e w2 ⟨V2, t2, rfl, b2⟩
  go_wp2_with fail
  refine (alive2_ok _).mono ?_
  rintro e w3 ⟨rfl, b3⟩
  go_wp2_with fail
  go_ret
  exact ⟨rfl, b0.trans (b1.trans (b2.trans b3))⟩
set_option maxHeartbeats 1000000 in
set_option maxRecDepth 100000 in
theorem order_10 {a b v d : Int} {N : Nat} (c0 : ∀ w, Hid (Calls Try.prog 6 #[.slice A n c] w fun e w' => e = .returned (.slice A N c) ∧ Gr w w')) (H0 : Hid (Mem w A N l))
    (c1 : ∀ w, Mem w A N l → Calls Try.prog 10 #[.slice A N c, .int .i64 a, .int .i64 v] w (GotAny 1 w))
    (c2 : ∀ w, Mem w A N l → Calls Try.prog 9 #[.slice A N c, .int .i64 b, .int .i64 d] w (GotAny 0 w)) :
    Calls Try.prog 5 #[.slice A n c, .int .i64 a, .int .i64 b, .int .i64 v, .int .i64 d] w fun e w' => e = .returned (.bool true) ∧ Gr w w' := by
  go_enter Try.func5, Try.ntmps5
  go_wp2_with fail
  refine (c0 _).out.mono ?_
  rintro e w0 ⟨rfl, b0⟩
  go_wp2_with fail
  refine (c1 _ (H0.out.gr b0)).mono ?_
  rintro e w1 ⟨V1, t1, rfl, b1⟩
  go_wp2_with fail
  refine (c2 _ (H0.out.gr (b0.trans b1))).mono ?_
  rintro e w2 ⟨V2, t2, rfl, b2⟩
  go_wp2_with fail
  refine (alive2_ok _).mono ?_
  rintro e w3 ⟨rfl, b3⟩
  go_wp2_with fail
  go_ret
  exact ⟨rfl, b0.trans (b1.trans (b2.trans b3))⟩
set_option maxHeartbeats 1000000 in
set_option maxRecDepth 100000 in
theorem order_31 {a b v d : Int} {N : Nat} (c0 : ∀ w, Hid (Calls Try.prog 6 #[.slice A n c] w fun e w' => e = .returned (.slice A N c) ∧ Gr w w')) (H0 : Hid (Mem w A N l))
    (c1 : ∀ w, Mem w A N l → Calls Try.prog 10 #[.slice A N c, .int .i64 a, .int .i64 v] w (GotAny 3 w))
    (c2 : ∀ w, Mem w A N l → Calls Try.prog 9 #[.slice A N c, .int .i64 b, .int .i64 d] w (GotAny 1 w)) :
    Calls Try.prog 5 #[.slice A n c, .int .i64 a, .int .i64 b, .int .i64 v, .int .i64 d] w fun e w' => e = .returned (.bool true) ∧ Gr w w' := by
  go_enter Try.func5, Try.ntmps5
  go_wp2_with fail
  refine (c0 _).out.mono ?_
  rintro e w0 ⟨rfl, b0⟩
  go_wp2_with fail
  refine (c1 _ (H0.out.gr b0)).mono ?_
  rintro e w1 ⟨V1, t1, rfl, b1⟩
  go_wp2_with fail
  refine (c2 _ (H0.out.gr (b0.trans b1))).mono ?_
  rintro e w2 ⟨V2, t2, rfl, b2⟩
  go_wp2_with fail
  refine (alive2_ok _).mono ?_
  rintro e w3 ⟨rfl, b3⟩
  go_wp2_with fail
  go_ret
  exact ⟨rfl, b0.trans (b1.trans (b2.trans b3))⟩
set_option maxHeartbeats 1000000 in
set_option maxRecDepth 100000 in
theorem order_33 {a b v d : Int} {N : Nat} (c0 : ∀ w, Hid (Calls Try.prog 6 #[.slice A n c] w fun e w' => e = .returned (.slice A N c) ∧ Gr w w')) (H0 : Hid (Mem w A N l))
    (c1 : ∀ w, Mem w A N l → Calls Try.prog 10 #[.slice A N c, .int .i64 a, .int .i64 v] w (GotAny 3 w))
    (c2 : ∀ w, Mem w A N l → Calls Try.prog 9 #[.slice A N c, .int .i64 b, .int .i64 d] w (GotAny 3 w)) :
    Calls Try.prog 5 #[.slice A n c, .int .i64 a, .int .i64 b, .int .i64 v, .int .i64 d] w fun e w' => e = .returned (.bool true) ∧ Gr w w' := by
  go_enter Try.func5, Try.ntmps5
  go_wp2_with fail
  refine (c0 _).out.mono ?_
  rintro e w0 ⟨rfl, b0⟩
  go_wp2_with fail
  refine (c1 _ (H0.out.gr b0)).mono ?_
  rintro e w1 ⟨V1, t1, rfl, b1⟩
  go_wp2_with fail
  refine (c2 _ (H0.out.gr (b0.trans b1))).mono ?_
  rintro e w2 ⟨V2, t2, rfl, b2⟩
  go_wp2_with fail
  refine (alive2_ok _).mono ?_
  rintro e w3 ⟨rfl, b3⟩
  go_wp2_with fail
  go_ret
  exact ⟨rfl, b0.trans (b1.trans (b2.trans b3))⟩
set_option maxHeartbeats 1000000 in
set_option maxRecDepth 100000 in
theorem order_30 {a b v d : Int} {N : Nat} (c0 : ∀ w, Hid (Calls Try.prog 6 #[.slice A n c] w fun e w' => e = .returned (.slice A N c) ∧ Gr w w')) (H0 : Hid (Mem w A N l))
    (c1 : ∀ w, Mem w A N l → Calls Try.prog 10 #[.slice A N c, .int .i64 a, .int .i64 v] w (GotAny 3 w))
    (c2 : ∀ w, Mem w A N l → Calls Try.prog 9 #[.slice A N c, .int .i64 b, .int .i64 d] w (GotAny 0 w)) :
    Calls Try.prog 5 #[.slice A n c, .int .i64 a, .int .i64 b, .int .i64 v, .int .i64 d] w fun e w' => e = .returned (.bool true) ∧ Gr w w' := by
  go_enter Try.func5, Try.ntmps5
  go_wp2_with fail
  refine (c0 _).out.mono ?_
  rintro e w0 ⟨rfl, b0⟩
  go_wp2_with fail
  refine (c1 _ (H0.out.gr b0)).mono ?_
  rintro e w1 ⟨V1, t1, rfl, b1⟩
  go_wp2_with fail
  refine (c2 _ (H0.out.gr (b0.trans b1))).mono ?_
  rintro e w2 ⟨V2, t2, rfl, b2⟩
  go_wp2_with fail
  refine (alive2_ok _).mono ?_
  rintro e w3 ⟨rfl, b3⟩
  go_wp2_with fail
  go_ret
  exact ⟨rfl, b0.trans (b1.trans (b2.trans b3))⟩
set_option maxHeartbeats 1000000 in
set_option maxRecDepth 100000 in
theorem order_01 {a b v d : Int} {N : Nat} (c0 : ∀ w, Hid (Calls Try.prog 6 #[.slice A n c] w fun e w' => e = .returned (.slice A N c) ∧ Gr w w')) (H0 : Hid (Mem w A N l))
    (c1 : ∀ w, Mem w A N l → Calls Try.prog 10 #[.slice A N c, .int .i64 a, .int .i64 v] w (GotAny 0 w))
    (c2 : ∀ w, Mem w A N l → Calls Try.prog 9 #[.slice A N c, .int .i64 b, .int .i64 d] w (GotAny 1 w)) :
    Calls Try.prog 5 #[.slice A n c, .int .i64 a, .int .i64 b, .int .i64 v, .int .i64 d] w fun e w' => e = .returned (.bool true) ∧ Gr w w' := by
  go_enter Try.func5, Try.ntmps5
  go_wp2_with fail
  refine (c0 _).out.mono ?_
  rintro e w0 ⟨rfl, b0⟩
  go_wp2_with fail
  refine (c1 _ (H0.out.gr b0)).mono ?_
  rintro e w1 ⟨V1, t1, rfl, b1⟩
  go_wp2_with fail
  refine (c2 _ (H0.out.gr (b0.trans b1))).mono ?_
  rintro e w2 ⟨V2, t2, rfl, b2⟩
  go_wp2_with fail
  refine (alive2_ok _).mono ?_
  rintro e w3 ⟨rfl, b3⟩
  go_wp2_with fail
  go_ret
  exact ⟨rfl, b0.trans (b1.trans (b2.trans b3))⟩
set_option maxHeartbeats 1000000 in
set_option maxRecDepth 100000 in
theorem order_03 {a b v d : Int} {N : Nat} (c0 : ∀ w, Hid (Calls Try.prog 6 #[.slice A n c] w fun e w' => e = .returned (.slice A N c) ∧ Gr w w')) (H0 : Hid (Mem w A N l))
    (c1 : ∀ w, Mem w A N l → Calls Try.prog 10 #[.slice A N c, .int .i64 a, .int .i64 v] w (GotAny 0 w))
    (c2 : ∀ w, Mem w A N l → Calls Try.prog 9 #[.slice A N c, .int .i64 b, .int .i64 d] w (GotAny 3 w)) :
    Calls Try.prog 5 #[.slice A n c, .int .i64 a, .int .i64 b, .int .i64 v, .int .i64 d] w fun e w' => e = .returned (.bool true) ∧ Gr w w' := by
  go_enter Try.func5, Try.ntmps5
  go_wp2_with fail
  refine (c0 _).out.mono ?_
  rintro e w0 ⟨rfl, b0⟩
  go_wp2_with fail
  refine (c1 _ (H0.out.gr b0)).mono ?_
  rintro e w1 ⟨V1, t1, rfl, b1⟩
  go_wp2_with fail
  refine (c2 _ (H0.out.gr (b0.trans b1))).mono ?_
  rintro e w2 ⟨V2, t2, rfl, b2⟩
  go_wp2_with fail
  refine (alive2_ok _).mono ?_
  rintro e w3 ⟨rfl, b3⟩
  go_wp2_with fail
  go_ret
  exact ⟨rfl, b0.trans (b1.trans (b2.trans b3))⟩
set_option maxHeartbeats 1000000 in
set_option maxRecDepth 100000 in
theorem order_00 {a v d : Int} {N : Nat} (c0 : ∀ w, Hid (Calls Try.prog 6 #[.slice A n c] w fun e w' => e = .returned (.slice A N c) ∧ Gr w w')) (H0 : Hid (Mem w A N l))
    (c1 : ∀ w, Mem w A N l → Calls Try.prog 10 #[.slice A N c, .int .i64 a, .int .i64 v] w (GotAny 0 w))
    (c2 : ∀ w, Mem w A N l → Calls Try.prog 9 #[.slice A N c, .int .i64 a, .int .i64 d] w (GotAny 0 w)) :
    Calls Try.prog 5 #[.slice A n c, .int .i64 a, .int .i64 a, .int .i64 v, .int .i64 d] w fun e w' => e = .returned (.bool true) ∧ Gr w w' := by
  go_enter Try.func5, Try.ntmps5
  go_wp2_with fail
  refine (c0 _).out.mono ?_
  rintro e w0 ⟨rfl, b0⟩
  go_wp2_with fail
  refine (c1 _ (H0.out.gr b0)).mono ?_
  rintro e w1 ⟨V1, t1, rfl, b1⟩
  go_wp2_with fail
  refine (c2 _ (H0.out.gr (b0.trans b1))).mono ?_
  rintro e w2 ⟨V2, t2, rfl, b2⟩
  go_wp2_with fail
  refine (alive2_ok _).mono ?_
  rintro e w3 ⟨rfl, b3⟩
  go_wp2_with fail
  go_ret
  exact ⟨rfl, b0.trans (b1.trans (b2.trans b3))⟩

theorem CellOrder_walk (w : World) (A : Option Addr) (n c : Nat) (l : List (Int × Int)) (hc : n ≤ c) (hn : n ≤ 9223372036854775807) (hm : Mem w A n l) (a : Int) (_ha : Inb a) (b : Int) (_hb : Inb b) (v : Int) (hv : Inb v) (d : Int) (hd : Inb d) :
    Calls Try.prog 5 #[.slice A n c, .int .i64 a, .int .i64 b, .int .i64 v, .int .i64 d] w fun e w' => e = .returned (.bool true) ∧ Gr w w' := by
  have h0 := hm.take_ (min n 70) (by omega)
  obtain ⟨e1, q1, r1, c1⟩ := Swap_any (A := A) (n := min n 70) (c := c) (l := l.take (min n 70)) (a := a) (v := v) (by omega) hv
  obtain ⟨e2, q2, r2, c2⟩ := Add2_any (A := A) (n := min n 70) (c := c) (l := l.take (min n 70)) (a := b) (v := d) (by omega)
  have c0 := fun w => Lib.hid (few_ok A n c w hn hc)
  rcases q1 with rfl | rfl | rfl <;> rcases q2 with rfl | rfl | rfl
  · by_cases hab : a = b
    · subst hab
      exact order_00 c0 (Lib.hid h0) c1 c2
    · obtain ⟨hr, a0, a1⟩ := r1 rfl
      obtain ⟨_, b0, b1⟩ := r2 rfl
      obtain ⟨i, x, rfl, hx, _⟩ := get_in h0.1 a0 a1
      obtain ⟨j, z, rfl, hz, _⟩ := get_in h0.1 b0 b1
      exact order_main hn hc h0 hr hx hz (by omega) hv hd
  · exact order_01 c0 (Lib.hid h0) c1 c2
  · exact order_03 c0 (Lib.hid h0) c1 c2
  · exact order_10 c0 (Lib.hid h0) c1 c2
  · exact order_11 c0 (Lib.hid h0) c1 c2
  · exact order_13 c0 (Lib.hid h0) c1 c2
  · exact order_30 c0 (Lib.hid h0) c1 c2
  · exact order_31 c0 (Lib.hid h0) c1 c2
  · exact order_33 c0 (Lib.hid h0) c1 c2
end
set_option maxRecDepth 100000 in
theorem CellOrder_lifted (os : Os) (started : os.Started) (H : Type) (enc : TypeId × Value → H) :
    ReturnsInHanded {} Try.checked os 5 .any (Rows.cellOrderSpec.pre6 enc Try.prog Try.f5 Rows.cellOrderRow.domain false) (Rows.cellOrderSpec.post enc Try.prog Try.f5 false true false false) := by
  refine returnsInHanded_of_change (C := Try.checked) own started (by kernel_rfl) Try.func5
    (ChangeSpec.witness6 (enc := enc) (C := Try.checked) false ⟨#[], #[.slice none 0 0, .int .i64 0, .int .i64 0, .int .i64 0, .int .i64 0], []⟩ 8 (by kernel_rfl) (by kernel_rfl) (by kernel_rfl) (by kernel_rfl)) ?_
  intro W base args ds gs before hval0 hW hcnd _
  have hval : ∀ (j : Nat) t v, Try.f5.params[j]? = some t → args[j]? = some v → Value.okWide Try.prog W .any base t v := hval0
  have hW' := hW
  obtain ⟨p, q, hA0, hV, rfl, hfz, hnd⟩ := hW
  have hA : DataW.TrodAll enc Try.prog W 0 (fun _ => true) true Try.f5.params.toList args.toList ds p := hA0
  rw [Try.params5] at hA hval
  have hK := hA
  obtain ⟨v0, vs0, d0, ds0, p0, q0, hargs, rfl, hp, h0, r0⟩ := trodAll_cons hA
  obtain ⟨v1, vs1, d1, ds1, p1, q1, rfl, rfl, rfl, h1, r1⟩ := trodAll_cons r0
  obtain ⟨v2, vs2, d2, ds2, p2, q2, rfl, rfl, rfl, h2, r2⟩ := trodAll_cons r1
  obtain ⟨v3, vs3, d3, ds3, p3, q3, rfl, rfl, rfl, h3, r3⟩ := trodAll_cons r2
  obtain ⟨v4, vs4, d4, ds4, p4, q4, rfl, rfl, rfl, h4, r4⟩ := trodAll_cons r3
  obtain ⟨rfl, rfl, rfl⟩ := trodAll_nil r4
  obtain rfl : args = #[v0, v1, v2, v3, v4] := by cases args; simp_all
  obtain ⟨rfl, rfl⟩ := trodVars_none hV
  obtain ⟨A0, n0, c0, l0, rfl, hc0, hn0, hm0⟩ := open_cells (hval 0 22 v0 rfl rfl) h0
  obtain ⟨a1, rfl, rfl, rfl, w1⟩ := open_int Try.underlying3 (hval 1 3 v1 rfl rfl) h1
  obtain ⟨a2, rfl, rfl, rfl, w2⟩ := open_int Try.underlying3 (hval 2 3 v2 rfl rfl) h2
  obtain ⟨a3, rfl, rfl, rfl, w3⟩ := open_int Try.underlying3 (hval 3 3 v3 rfl rfl) h3
  obtain ⟨a4, rfl, rfl, rfl, w4⟩ := open_int Try.underlying3 (hval 4 3 v4 rfl rfl) h4
  clear hA0 hval0
  refine (CellOrder_walk W A0 n0 c0 l0 hc0 hn0 hm0 a1 (wfb w1) a2 (wfb w2) a3 (wfb w3) a4 (wfb w4)).mono fun e W' ⟨he, hg⟩ => ?_
  subst he
  exact ⟨_, rfl, post_below (pa := p) (pv := []) hW' (fun _ _ _ => (trodAll_cons_mk (shut_bool Try.underlying4 _) trodAll_mk0))
    (fun sp hs => trodAll_stays laidOut hg sp (by kernel_rfl) hK (fun x hx => hW'.lt x (List.mem_append_left _ hx)) (fun x hx => hs x (List.mem_append_left _ hx))) (fun _ _ => rfl) rfl
    hg (ok_one (by kernel_rfl) rfl (okWide_bool_mk Try.underlying4 _))⟩

theorem CellOrder_over : Rows.cellOrderRow.holds Try.pinned (OpenSpec.ofChange Rows.cellOrderSpec) :=
  OpenClaim.holds_of_wide 5 Try.f5 rfl rfl rfl rfl rfl rfl rfl ⟨rfl, rfl, rfl, rfl, rfl⟩ rfl rfl rfl rfl rfl (by kernel_rfl) Try.func5 (by kernel_rfl)
    (of_decide_eq_true (by kernel_rfl)) (by unfold Func.isWrapper; first | (rw [if_pos (by decide +kernel)]; kernel_rfl) | (rw [if_neg (by decide +kernel)]; exact ⟨rfl, rfl⟩))
    (fun os started H enc _ => CellOrder_lifted os started H enc)

/-- The statement. -/
theorem CellOrder_holds : Rows.CellOrderSaid :=
  CellOrder_over
#print axioms CellOrder_holds
end Go.Proofs.Ytcfgkldlhlnniaa
