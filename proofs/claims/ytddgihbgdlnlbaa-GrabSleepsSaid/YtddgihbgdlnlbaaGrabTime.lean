/-
  Package grab: asleep, late, woken.
-/
import Derived.Test.YtddgihbgdlnlbaaGrabLook
namespace Go.Proofs.Ytddgihbgdlnlbaa
open Go.ChangeShapes Go.WideShapes Go.ChangeAt Go.RowKit
set_option linter.unusedVariables false
set_option linter.unusedSimpArgs false

namespace P14
open P3 (fl pw)
open P4 (Tm)

section
variable {s r : Int} {t k a b c : Bool} {n u o x : Int} {w : World}
/-- Since when who goes to wait does so. -/
def snc (s u : Int) : Int := if s = -1 then u else s
/-- Whether who waits since s does so for too long by u. -/
def ltB (s u : Int) : Bool := decide (s ≠ -1 ∧ 1000000 < P4.gap s u)

set_option maxHeartbeats 1000000 in
theorem asleep_bad (h : ¬ (OkS s r ∧ OkW o)) :
    Calls Try.prog 52 #[ov s t k r o, .int .i64 u] w fun e w' => e = .panicked (pan 1) ∧ Gr w w' := by
  have L := fun w => Lib.hid (look_no (t := t) (k := k) (w := w) h)
  have G0 := Lib.hid (((Gr.refl w).al (.cells #[.int .i64 s, .bool t, .bool k, .int .i64 r, .int .i64 o] 23)).al (.cells #[.int .i64 0, .bool false, .bool false, .int .i64 0, .int .i64 0] 23))
  clear h
  go_enter Try.func52, Try.ntmps52
  go_wp2_with fail
  with_reducible refine (L _).out.mono ?_
  rintro e w1 ⟨rfl, g1⟩
  go_wp2_with fail
  exact ⟨rfl, rfl, G0.out.trans g1⟩
set_option maxHeartbeats 1000000 in
theorem asleep_no (h : OkS s r) (hn : OkN n) (hu : ¬ Tm u) :
    Calls Try.prog 52 #[ov s t k r (pw a b c n), .int .i64 u] w fun e w' => e = .panicked (pan 1) ∧ Gr w w' := by
  have L := fun w => Lib.hid (look_ok (t := t) (k := k) (a := a) (b := b) (c := c) (w := w) h hn)
  have R := fun w => Lib.hid (P4.Right_ok u false (P4.near_ne hu) w)
  generalize pw a b c n = o at *
  have G0 := Lib.hid (((Gr.refl w).al (.cells #[.int .i64 s, .bool t, .bool k, .int .i64 r, .int .i64 o] 23)).al (.cells #[.int .i64 0, .bool false, .bool false, .int .i64 0, .int .i64 0] 23))
  clear h hn hu
  go_enter Try.func52, Try.ntmps52
  go_wp2_with fail
  with_reducible refine (L _).out.mono ?_
  rintro e w1 ⟨rfl, g1⟩
  go_wp2_with fail
  with_reducible refine (R _).out.mono ?_
  rintro e w2 ⟨rfl, g2⟩
  go_wp2_with fail
  with_reducible refine (need_no _ _).mono ?_
  rintro e w3 ⟨rfl, rfl⟩
  go_wp2_with fail
  exact ⟨rfl, rfl, (G0.out.trans g1).trans g2⟩
set_option maxHeartbeats 2000000 in
theorem asleep_ok (h : OkS s r) (hn : OkN n) (hu : Tm u) :
    Calls Try.prog 52 #[ov s t k r (pw a b c n), .int .i64 u] w fun e w' => e = .returned (ov (snc s u) t k r (pw a b c n)) ∧ Gr w w' := by
  have L := fun w => Lib.hid (look_ok (t := t) (k := k) (a := a) (b := b) (c := c) (w := w) h hn)
  have R := fun w => Lib.hid (P4.Right_ok u true (by rw [P4.near_eq hu]; simp) w)
  generalize pw a b c n = o at *
  have G0 := Lib.hid (((Gr.refl w).al (.cells #[.int .i64 s, .bool t, .bool k, .int .i64 r, .int .i64 o] 23)).al (.cells #[.int .i64 0, .bool false, .bool false, .int .i64 0, .int .i64 0] 23))
  have N0 := (Blk.new w #[.int .i64 s, .bool t, .bool k, .int .i64 r, .int .i64 o] 23).al (.cells #[.int .i64 0, .bool false, .bool false, .int .i64 0, .int .i64 0] 23)
  have N1 := Blk.new (w.alloc (.cells #[.int .i64 s, .bool t, .bool k, .int .i64 r, .int .i64 o] 23)) #[.int .i64 0, .bool false, .bool false, .int .i64 0, .int .i64 0] 23
  rw [World.size_alloc] at N1
  have N0 := Lib.hid N0
  have N1 := Lib.hid N1
  have hne : w.heap.size + 1 ≠ w.heap.size := by omega
  have hs : (s = -1 ∧ snc s u = u) ∨ ((s == -1) = false ∧ snc s u = s) := by
    unfold snc
    by_cases h1 : s = -1
    · exact .inl ⟨h1, if_pos h1⟩
    · exact .inr ⟨beq_eq_false_iff_ne.2 h1, if_neg h1⟩
  generalize snc s u = S at *
  clear h hn hu
  rcases hs with ⟨rfl, rfl⟩ | ⟨h1, rfl⟩
  · go_enter Try.func52, Try.ntmps52
    go_wp2_with fail
    with_reducible refine (L _).out.mono ?_
    rintro e w1 ⟨rfl, g1⟩
    go_wp2_with fail
    with_reducible refine (R _).out.mono ?_
    rintro e w2 ⟨rfl, g2⟩
    have B0 := (N0.out.gr g1).gr g2
    have B1 := (N1.out.gr g1).gr g2
    have G2 := (G0.out.trans g1).trans g2
    obtain ⟨⟨q0, q1, q2, q3, q4⟩, z0, -⟩ := own_cells B0
    obtain ⟨⟨e0, e1, e2, e3, e4⟩, y0, y1, y2, y3, y4⟩ := own_cells B1
    have BF := own_st (B1.st (p := ⟨w.heap.size, 0, none⟩) hne.symm (.int .i64 S)) S t k r o
    have GF := Lib.hid (own_gr (g := w.heap.size + 1) (G2.st (p := ⟨w.heap.size, 0, none⟩) (Nat.le_refl _) (.int .i64 S)) (Nat.le_succ _) S t k r o)
    obtain ⟨⟨c0, c1, c2, c3, c4⟩, -⟩ := own_cells BF
    clear B0 B1 BF G2 g1 g2
    go_wp2_with fail
    with_reducible refine (need_yes _ _).mono ?_
    rintro e w3 ⟨rfl, rfl⟩
    go_wp2_with fail
    exact bodyPost_ret (v := ov S t k r o) (by simp [results, Try.results52, go_sem, c0, c1, c2, c3, c4]) rfl ⟨rfl, GF.out⟩
  · go_enter Try.func52, Try.ntmps52
    go_wp2_with fail
    with_reducible refine (L _).out.mono ?_
    rintro e w1 ⟨rfl, g1⟩
    go_wp2_with fail
    with_reducible refine (R _).out.mono ?_
    rintro e w2 ⟨rfl, g2⟩
    have B0 := (N0.out.gr g1).gr g2
    have B1 := (N1.out.gr g1).gr g2
    have G2 := (G0.out.trans g1).trans g2
    obtain ⟨⟨q0, q1, q2, q3, q4⟩, z0, -⟩ := own_cells B0
    obtain ⟨⟨e0, e1, e2, e3, e4⟩, y0, y1, y2, y3, y4⟩ := own_cells B1
    have BF := own_st B1 S t k r o
    have GF := Lib.hid (own_gr (g := w.heap.size + 1) G2 (Nat.le_succ _) S t k r o)
    obtain ⟨⟨c0, c1, c2, c3, c4⟩, -⟩ := own_cells BF
    clear B0 B1 BF G2 g1 g2
    go_wp2_with fail
    with_reducible refine (need_yes _ _).mono ?_
    rintro e w3 ⟨rfl, rfl⟩
    go_wp2_with fail
    exact bodyPost_ret (v := ov S t k r o) (by simp [results, Try.results52, go_sem, c0, c1, c2, c3, c4]) rfl ⟨rfl, GF.out⟩

set_option maxHeartbeats 2000000 in
theorem late_is (hs : s = -1 ∨ Tm s) (hu : Tm u) {B : Bool} (hB : ltB s u = B) :
    Calls Try.prog 68 #[ov s t k r o, .int .i64 u] w fun e w' => e = .returned (.bool B) ∧ Gr w w' := by
  have G0 := (Gr.refl w).al (.cells #[.int .i64 s, .bool t, .bool k, .int .i64 r, .int .i64 o] 23)
  by_cases h1 : s = -1
  · subst h1
    obtain rfl : B = false := by rw [← hB]; simp [ltB]
    clear hs hu hB
    go_enter Try.func68, Try.ntmps68
    go_wp2_with fail
    go_ret
    exact ⟨rfl, G0⟩
  · have hs' : Tm s := hs.resolve_left h1
    have A := P4.Ap.ex s u
    have C := fun w => Lib.hid (P4.Late_is (a := s) (b := u) (r := P4.gap s u) (s := 0) (.inl ⟨hs', hu, rfl, rfl⟩) B (by rw [← hB]; simp [ltB, h1]) w)
    clear A hs hs' hu hB
    have hn1 : (s != -1) = true := by simp [h1]
    go_enter Try.func68, Try.ntmps68
    go_wp2_with fail
    with_reducible refine (C _).out.mono ?_
    rintro e w1 ⟨rfl, g1⟩
    go_wp2_with fail
    with_reducible refine (sureB_yes _ _).mono ?_
    rintro e w2 ⟨rfl, rfl⟩
    go_wp2_with fail
    go_ret
    exact ⟨rfl, G0.trans g1⟩
end
end P14
end Go.Proofs.Ytddgihbgdlnlbaa
