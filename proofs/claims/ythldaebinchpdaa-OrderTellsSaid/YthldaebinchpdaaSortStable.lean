/-
  slices.stableCmpFunc at up to 60 floats; slices.Clone; order.Sort.
-/
import Derived.Test.YthldaebinchpdaaSortMerge3
namespace Go.Proofs.Ythldaebinchpdaa
open Go.ChangeShapes Go.WideShapes Go.ChangeAt Go.RowKit
set_option linter.unusedVariables false

section
variable {g n c hb : Nat} {l : List Nat} {w : World}
theorem insZ {A B : Int} {a b : Nat} (hA : (a : Int) = A) (hB : (b : Int) = B) (hr : RowAt w g l) (hl : l.length = n) (hn : n ≤ 60) (hx : Box w hb) (hg : hb ≠ g) (h1 : a ≤ b) (h2 : b ≤ n) :
    Calls Try.prog 29 #[.slice (some ⟨g, 0, none⟩) n c, .int .i64 A, .int .i64 B, cmpF hb] w (Left g w fun l' => Upd a b l l' ∧ Sd l' a b) := by
  subst hA hB
  exact insertion_ok g n c a b hb l w hr hl hn hx hg h1 h2
theorem mrgZ {A M B : Int} {a m b : Nat} (hA : (a : Int) = A) (hM : (m : Int) = M) (hB : (b : Int) = B) (hr : RowAt w g l) (hl : l.length = n) (hn : n ≤ 60) (hx : Box w hb) (hg : hb ≠ g) (h1 : a < m) (h2 : m < b) (h3 : b ≤ n) (s1 : Sd l a m) (s2 : Sd l m b) :
    Calls Try.prog 30 #[.slice (some ⟨g, 0, none⟩) n c, .int .i64 A, .int .i64 M, .int .i64 B, cmpF hb] w (Left g w fun l' => Upd a b l l' ∧ Sd l' a b) := by
  subst hA hM hB
  exact merge_ok g n c hb hn hg (b - a + 1) a m b l w (by omega) hr hl hx h1 h2 h3 s1 s2

set_option maxHeartbeats 4000000 in
theorem stable_1 (hr : RowAt w g l) (hl : l.length = n) (hn : n < 20) (hx : Box w hb) (hg : hb ≠ g) :
    Calls Try.prog 28 #[.slice (some ⟨g, 0, none⟩) n c, .int .i64 n, cmpF hb] w (Left g w fun l' => Upd 0 n l l' ∧ Sd l' 0 n) := by
  have k1 := Lib.hid (insZ (c := c) (a := 0) (b := n) rfl rfl hr hl (by omega) hx hg (by omega) (by omega))
  have t0 : ¬ (20 : Int) ≤ (n : Int) := by omega
  have t1 : ¬ (20 : Int) < (n : Int) := by omega
  clear hr hx hl
  go_enter Try.func28, Try.ntmps28
  go_wp2_with fail
  refine wp_loop_rounds 1 ?_
  rw [rounds_succ]
  go_wp2_with fail
  refine k1.out.mono ?_
  rintro e w1 ⟨rfl, l1, R1, O1, U1, S1⟩
  go_wp2_with fail
  refine wp_loop_rounds 1 ?_
  rw [rounds_succ]
  go_wp2_with fail
  go_end0
  exact ⟨rfl, l1, R1, O1, U1, S1⟩

set_option maxHeartbeats 4000000 in
theorem stable_2 (hr : RowAt w g l) (hl : l.length = n) (hn : 20 ≤ n ∧ n < 40) (hx : Box w hb) (hg : hb ≠ g) :
    Calls Try.prog 28 #[.slice (some ⟨g, 0, none⟩) n c, .int .i64 n, cmpF hb] w (Left g w fun l' => Upd 0 n l l' ∧ Sd l' 0 n) := by
  have k1 := Lib.hid (insZ (c := c) (a := 0) (b := 20) rfl rfl hr hl (by omega) hx hg (by omega) (by omega))
  have t0 : (20 : Int) ≤ (n : Int) := by omega
  have t1 : ¬ (40 : Int) ≤ (n : Int) := by omega
  have t3 : ¬ (40 : Int) < (n : Int) := by omega
  have Hl := Lib.hid hl
  clear hr hl
  go_enter Try.func28, Try.ntmps28
  go_wp2_with fail
  refine wp_loop_rounds 2 ?_
  rw [rounds_succ]
  go_wp2_with fail
  refine k1.out.mono ?_
  rintro e w1 ⟨rfl, l1, R1, O1, U1, S1⟩
  have HU1 := Lib.hid U1
  have HS1 := Lib.hid S1
  have k2 := Lib.hid (insZ (c := c) (a := 20) (b := n) rfl rfl R1 (HU1.out.len.trans Hl.out) (by omega) (hx.onl O1 hg) hg (by omega) (by omega))
  clear U1 S1 k1 R1
  go_wp2_with fail
  rw [rounds_succ]
  go_wp2_with fail
  refine k2.out.mono ?_
  rintro e w2 ⟨rfl, l2, R2, O2, U2, S2⟩
  replace O2 := O1.trans O2
  have HU2 := Lib.hid (HU1.out.wide (c := 0) (d := n) (by omega) (by omega) |>.trans (U2.wide (by omega) (by omega)))
  have HS2 := Lib.hid S2
  have HS2' := Lib.hid (HS1.out.out U2 (.inl (by omega)))
  clear U2 S2 k2
  by_cases h20 : n ≤ 20
  · have t2 : ¬ (20 : Int) < (n : Int) := by omega
    have HD : Hid (Sd l2 0 n) := Lib.hid (HS2'.out.sub (by omega) h20)
    go_wp2_with fail
    refine wp_loop_rounds 1 ?_
    rw [rounds_succ]
    go_wp2_with fail
    go_end0
    exact ⟨rfl, l2, R2, O2, HU2.out, HD.out⟩
  · have t2 : (20 : Int) < (n : Int) := by omega
    have k3 := Lib.hid (mrgZ (c := c) (a := 0) (m := 20) (b := n) rfl rfl rfl R2 (HU2.out.len.trans Hl.out) (by omega) (hx.onl O2 hg) hg (by omega) (by omega) (by omega) HS2'.out HS2.out)
    clear R2
    go_wp2_with fail
    refine wp_loop_rounds 2 ?_
    rw [rounds_succ]
    go_wp2_with fail
    refine wp_loop_rounds 1 ?_
    rw [rounds_succ]
    go_wp2_with fail
    refine k3.out.mono ?_
    rintro e w3 ⟨rfl, l3, R3, O3, U3, S3⟩
    go_wp2_with fail
    rw [rounds_succ]
    go_wp2_with fail
    go_end0
    exact ⟨rfl, l3, R3, O2.trans O3, HU2.out.trans U3, S3⟩

set_option maxHeartbeats 4000000 in
theorem stable_3 (hr : RowAt w g l) (hl : l.length = n) (hn : 40 ≤ n ∧ n < 60) (hx : Box w hb) (hg : hb ≠ g) :
    Calls Try.prog 28 #[.slice (some ⟨g, 0, none⟩) n c, .int .i64 n, cmpF hb] w (Left g w fun l' => Upd 0 n l l' ∧ Sd l' 0 n) := by
  have k1 := Lib.hid (insZ (c := c) (a := 0) (b := 20) rfl rfl hr hl (by omega) hx hg (by omega) (by omega))
  have t0 : (20 : Int) ≤ (n : Int) := by omega
  have t1 : (40 : Int) ≤ (n : Int) := by omega
  have t2 : (20 : Int) < (n : Int) := by omega
  have t3 : ¬ (60 : Int) ≤ (n : Int) := by omega
  have t4 : ¬ (60 : Int) < (n : Int) := by omega
  have t5 : ¬ (80 : Int) ≤ (n : Int) := by omega
  have t6 : ¬ (80 : Int) < (n : Int) := by omega
  have Hl := Lib.hid hl
  clear hr hl
  go_enter Try.func28, Try.ntmps28
  go_wp2_with fail
  refine wp_loop_rounds 3 ?_
  rw [rounds_succ]
  go_wp2_with fail
  refine k1.out.mono ?_
  rintro e w1 ⟨rfl, l1, R1, O1, U1, S1⟩
  have HU1 := Lib.hid U1
  have HA1 := Lib.hid S1
  have k2 := Lib.hid (insZ (c := c) (a := 20) (b := 40) rfl rfl R1 (HU1.out.len.trans Hl.out) (by omega) (hx.onl O1 hg) hg (by omega) (by omega))
  clear U1 S1 k1 R1
  go_wp2_with fail
  rw [rounds_succ]
  go_wp2_with fail
  refine k2.out.mono ?_
  rintro e w2 ⟨rfl, l2, R2, O2, U2, S2⟩
  replace O2 := O1.trans O2
  have HU2 := Lib.hid ((HU1.out.wide (c := 0) (d := n) (by omega) (by omega)).trans (U2.wide (by omega) (by omega)))
  have HB2 := Lib.hid S2
  have HA2 := Lib.hid (HA1.out.out U2 (.inl (by omega)))
  have k3 := Lib.hid (insZ (c := c) (a := 40) (b := n) rfl rfl R2 (HU2.out.len.trans Hl.out) (by omega) (hx.onl O2 hg) hg (by omega) (by omega))
  clear U2 S2 k2 R2 HA1 HU1 O1
  go_wp2_with fail
  rw [rounds_succ]
  go_wp2_with fail
  refine k3.out.mono ?_
  rintro e w3 ⟨rfl, l3, R3, O3, U3, S3⟩
  replace O3 := O2.trans O3
  have HU3 := Lib.hid (HU2.out.trans (U3.wide (by omega) (by omega)))
  have HC3 := Lib.hid S3
  have HA3 := Lib.hid (HA2.out.out U3 (.inl (by omega)))
  have HB3 := Lib.hid (HB2.out.out U3 (.inl (by omega)))
  have k4 := Lib.hid (mrgZ (c := c) (a := 0) (m := 20) (b := 40) rfl rfl rfl R3 (HU3.out.len.trans Hl.out) (by omega) (hx.onl O3 hg) hg (by omega) (by omega) (by omega) HA3.out HB3.out)
  clear U3 S3 k3 R3 HA2 HB2 HU2 O2
  go_wp2_with fail
  refine wp_loop_rounds 3 ?_
  rw [rounds_succ]
  go_wp2_with fail
  refine wp_loop_rounds 2 ?_
  rw [rounds_succ]
  go_wp2_with fail
  refine k4.out.mono ?_
  rintro e w4 ⟨rfl, l4, R4, O4, U4, S4⟩
  replace O4 := O3.trans O4
  have HU4 := Lib.hid (HU3.out.trans (U4.wide (by omega) (by omega)))
  have HA4 := Lib.hid S4
  have HC4 := Lib.hid (HC3.out.out U4 (.inr (by omega)))
  clear U4 S4 k4 HA3 HB3 HC3 HU3 O3
  go_wp2_with fail
  rw [rounds_succ]
  go_wp2_with fail
  rw [rounds_succ]
  by_cases h40 : n ≤ 40
  · have t7 : ¬ (40 : Int) < (n : Int) := by omega
    have HD : Hid (Sd l4 0 n) := Lib.hid (HA4.out.sub (by omega) h40)
    go_wp2_with fail
    go_end0
    exact ⟨rfl, l4, R4, O4, HU4.out, HD.out⟩
  · have t7 : (40 : Int) < (n : Int) := by omega
    have k5 := Lib.hid (mrgZ (c := c) (a := 0) (m := 40) (b := n) rfl rfl rfl R4 (HU4.out.len.trans Hl.out) (by omega) (hx.onl O4 hg) hg (by omega) (by omega) (by omega) HA4.out HC4.out)
    clear R4
    go_wp2_with fail
    refine wp_loop_rounds 1 ?_
    rw [rounds_succ]
    go_wp2_with fail
    refine k5.out.mono ?_
    rintro e w5 ⟨rfl, l5, R5, O5, U5, S5⟩
    go_wp2_with fail
    rw [rounds_succ]
    go_wp2_with fail
    go_end0
    exact ⟨rfl, l5, R5, O4.trans O5, HU4.out.trans U5, S5⟩

set_option maxHeartbeats 4000000 in
theorem stable_4 (hr : RowAt w g l) (hl : l.length = 60) (hx : Box w hb) (hg : hb ≠ g) :
    Calls Try.prog 28 #[.slice (some ⟨g, 0, none⟩) 60 c, .int .i64 60, cmpF hb] w (Left g w fun l' => Upd 0 60 l l' ∧ Sd l' 0 60) := by
  have k1 := Lib.hid (insZ (c := c) (a := 0) (b := 20) rfl rfl hr hl (by omega) hx hg (by omega) (by omega))
  have Hl := Lib.hid hl
  clear hr hl
  go_enter Try.func28, Try.ntmps28
  go_wp2_with fail
  refine wp_loop_rounds 4 ?_
  rw [rounds_succ]
  go_wp2_with fail
  refine k1.out.mono ?_
  rintro e w1 ⟨rfl, l1, R1, O1, U1, S1⟩
  have HU1 := Lib.hid U1
  have HA1 := Lib.hid S1
  have k2 := Lib.hid (insZ (c := c) (a := 20) (b := 40) rfl rfl R1 (HU1.out.len.trans Hl.out) (by omega) (hx.onl O1 hg) hg (by omega) (by omega))
  clear U1 S1 k1 R1
  go_wp2_with fail
  rw [rounds_succ]
  go_wp2_with fail
  refine k2.out.mono ?_
  rintro e w2 ⟨rfl, l2, R2, O2, U2, S2⟩
  replace O2 := O1.trans O2
  have HU2 := Lib.hid ((HU1.out.wide (c := 0) (d := 60) (by omega) (by omega)).trans (U2.wide (by omega) (by omega)))
  have HB2 := Lib.hid S2
  have HA2 := Lib.hid (HA1.out.out U2 (.inl (by omega)))
  have k3 := Lib.hid (insZ (c := c) (a := 40) (b := 60) rfl rfl R2 (HU2.out.len.trans Hl.out) (by omega) (hx.onl O2 hg) hg (by omega) (by omega))
  clear U2 S2 k2 R2 HA1 HU1 O1
  go_wp2_with fail
  rw [rounds_succ]
  go_wp2_with fail
  refine k3.out.mono ?_
  rintro e w3 ⟨rfl, l3, R3, O3, U3, S3⟩
  replace O3 := O2.trans O3
  have HU3 := Lib.hid (HU2.out.trans (U3.wide (by omega) (by omega)))
  have HC3 := Lib.hid S3
  have HA3 := Lib.hid (HA2.out.out U3 (.inl (by omega)))
  have HB3 := Lib.hid (HB2.out.out U3 (.inl (by omega)))
  have k0 := Lib.hid (insZ (c := c) (a := 60) (b := 60) rfl rfl R3 (HU3.out.len.trans Hl.out) (by omega) (hx.onl O3 hg) hg (by omega) (by omega))
  clear U3 S3 k3 R3 HA2 HB2 HU2 O2
  go_wp2_with fail
  rw [rounds_succ]
  go_wp2_with fail
  refine k0.out.mono ?_
  rintro e w0 ⟨rfl, l0, R0, O0, U0, S0⟩
  replace O0 := O3.trans O0
  have HU0 := Lib.hid (HU3.out.trans (U0.wide (by omega) (by omega)))
  have HC0 := Lib.hid (HC3.out.out U0 (.inl (by omega)))
  have HA0 := Lib.hid (HA3.out.out U0 (.inl (by omega)))
  have HB0 := Lib.hid (HB3.out.out U0 (.inl (by omega)))
  have k4 := Lib.hid (mrgZ (c := c) (a := 0) (m := 20) (b := 40) rfl rfl rfl R0 (HU0.out.len.trans Hl.out) (by omega) (hx.onl O0 hg) hg (by omega) (by omega) (by omega) HA0.out HB0.out)
  clear U0 S0 k0 R0 HA3 HB3 HC3 HU3 O3
  go_wp2_with fail
  refine wp_loop_rounds 3 ?_
  rw [rounds_succ]
  go_wp2_with fail
  refine wp_loop_rounds 2 ?_
  rw [rounds_succ]
  go_wp2_with fail
  refine k4.out.mono ?_
  rintro e w4 ⟨rfl, l4, R4, O4, U4, S4⟩
  replace O4 := O0.trans O4
  have HU4 := Lib.hid (HU0.out.trans (U4.wide (by omega) (by omega)))
  have HA4 := Lib.hid S4
  have HC4 := Lib.hid (HC0.out.out U4 (.inr (by omega)))
  have k5 := Lib.hid (mrgZ (c := c) (a := 0) (m := 40) (b := 60) rfl rfl rfl R4 (HU4.out.len.trans Hl.out) (by omega) (hx.onl O4 hg) hg (by omega) (by omega) (by omega) HA4.out HC4.out)
  clear U4 S4 k4 HA0 HB0 HC0 HU0 O0 R4
  go_wp2_with fail
  rw [rounds_succ]
  go_wp2_with fail
  rw [rounds_succ]
  go_wp2_with fail
  refine wp_loop_rounds 1 ?_
  rw [rounds_succ]
  go_wp2_with fail
  refine k5.out.mono ?_
  rintro e w5 ⟨rfl, l5, R5, O5, U5, S5⟩
  go_wp2_with fail
  rw [rounds_succ]
  go_wp2_with fail
  go_end0
  exact ⟨rfl, l5, R5, O4.trans O5, HU4.out.trans U5, S5⟩

theorem stable_ok (hr : RowAt w g l) (hl : l.length = n) (hn : n ≤ 60) (hx : Box w hb) (hg : hb ≠ g) :
    Calls Try.prog 28 #[.slice (some ⟨g, 0, none⟩) n c, .int .i64 n, cmpF hb] w (Left g w fun l' => Upd 0 n l l' ∧ Sd l' 0 n) := by
  by_cases h1 : n < 20
  · exact stable_1 hr hl h1 hx hg
  by_cases h2 : n < 40
  · exact stable_2 hr hl ⟨by omega, h2⟩ hx hg
  by_cases h3 : n < 60
  · exact stable_3 hr hl ⟨by omega, h3⟩ hx hg
  obtain rfl : n = 60 := by omega
  exact stable_4 hr hl hx hg
end
end Go.Proofs.Ythldaebinchpdaa
