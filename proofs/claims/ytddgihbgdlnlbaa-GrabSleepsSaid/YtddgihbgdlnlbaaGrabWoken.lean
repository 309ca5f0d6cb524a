/-
  Package grab: woken.
-/
import Derived.Test.YtddgihbgdlnlbaaGrabTime
namespace Go.Proofs.Ytddgihbgdlnlbaa
open Go.ChangeShapes Go.WideShapes Go.ChangeAt Go.RowKit
set_option linter.unusedVariables false
set_option linter.unusedSimpArgs false

namespace P14
open P3 (fl pw)
open P4 (Tm)

section
variable {s r : Int} {t k a b c : Bool} {n u o x : Int} {w : World}
set_option maxHeartbeats 1000000 in
theorem woken_bad (h : ¬ (OkS s r ∧ OkW o)) :
    Calls Try.prog 54 #[ov s t k r o, .int .i64 u, .int .i64 x] w fun e w' => e = .panicked (pan 1) ∧ Gr w w' := by
  have L := fun w => Lib.hid (look_no (t := t) (k := k) (w := w) h)
  have G0 := Lib.hid (((Gr.refl w).al (.cells #[.int .i64 s, .bool t, .bool k, .int .i64 r, .int .i64 o] 23)).al (.cells #[.int .i64 0, .bool false, .bool false, .int .i64 0, .int .i64 0] 23))
  clear h
  go_enter Try.func54, Try.ntmps54
  go_wp2_with fail
  with_reducible refine (L _).out.mono ?_
  rintro e w1 ⟨rfl, g1⟩
  go_wp2_with fail
  exact ⟨rfl, rfl, G0.out.trans g1⟩
set_option maxHeartbeats 1000000 in
theorem woken_late (h : OkS s r) (ho : OkW o) (hu : ¬ Tm u) :
    Calls Try.prog 54 #[ov s t k r o, .int .i64 u, .int .i64 x] w fun e w' => e = .panicked (pan 1) ∧ Gr w w' := by
  obtain ⟨a, b, c, n, rfl, hn⟩ := P3.pw_of ho
  have L := fun w => Lib.hid (look_ok (t := t) (k := k) (a := a) (b := b) (c := c) (w := w) h hn)
  have R := fun w => Lib.hid (P4.Right_ok u false (P4.near_ne hu) w)
  clear ho
  generalize pw a b c n = o at *
  have G0 := Lib.hid (((Gr.refl w).al (.cells #[.int .i64 s, .bool t, .bool k, .int .i64 r, .int .i64 o] 23)).al (.cells #[.int .i64 0, .bool false, .bool false, .int .i64 0, .int .i64 0] 23))
  clear h hn hu
  go_enter Try.func54, Try.ntmps54
  go_wp2_with fail
  with_reducible refine (L _).out.mono ?_
  rintro e w1 ⟨rfl, g1⟩
  go_wp2_with fail
  with_reducible refine (R _).out.mono ?_
  rintro e w2 ⟨rfl, g2⟩
  go_wp2_with fail
  with_reducible refine (need_no _ _).mono ?_
  rintro e w3 ⟨rfl, rfl⟩
  go_wp2_with fail
  exact ⟨rfl, rfl, (G0.out.trans g1).trans g2⟩
theorem run_starv (a b c : Bool) (n : Int) (w : World) : (Instr.field 43 (fl a b c n) 2).run Try.prog w = .ok (.bool c) w := by kernel_rfl
/-- The world in which who was told looks at the word. -/
def Mid (w W : World) (s : Int) (T k : Bool) (r x : Int) : Prop :=
  Blk W w.heap.size #[.int .i64 s, .bool T, .bool k, .int .i64 r, .int .i64 x] 23 ∧ Blk W (w.heap.size + 1) #[.int .i64 0, .bool false, .bool false, .int .i64 0, .int .i64 0] 23 ∧ Gr w W
theorem Mid.gr {w W W' : World} {T : Bool} (h : Mid w W s T k r x) (g : Gr W W') : Mid w W' s T k r x := ⟨h.1.gr g, h.2.1.gr g, h.2.2.trans g⟩
theorem Mid.mk {w W : World} (B0 : Blk W w.heap.size #[.int .i64 s, .bool t, .bool k, .int .i64 r, .int .i64 o] 23) (B1 : Blk W (w.heap.size + 1) #[.int .i64 0, .bool false, .bool false, .int .i64 0, .int .i64 0] 23) (G : Gr w W) (T : Bool) (x : Int) :
    Mid w ((W.setCell ⟨w.heap.size, 1, none⟩ (.bool T)).setCell ⟨w.heap.size, 4, none⟩ (.int .i64 x)) s T k r x :=
  ⟨(B0.set 1 (.bool T)).set 4 (.int .i64 x), (B1.st (p := ⟨w.heap.size, 1, none⟩) (by show w.heap.size ≠ w.heap.size + 1; omega) _).st (p := ⟨w.heap.size, 4, none⟩) (by show w.heap.size ≠ w.heap.size + 1; omega) _,
    (G.st (p := ⟨w.heap.size, 1, none⟩) (Nat.le_refl _) _).st (p := ⟨w.heap.size, 4, none⟩) (Nat.le_refl _) _⟩
set_option maxHeartbeats 4000000 in
theorem woken_word (h : OkS s r) (ho : OkW o) (hu : Tm u) (hx : ¬ OkW x) {T : Bool} (hT : (t || ltB s u) = T) :
    Calls Try.prog 54 #[ov s t k r o, .int .i64 u, .int .i64 x] w fun e w' => e = .panicked (pan 1) ∧ Gr w w' := by
  obtain ⟨a', b', c', n', rfl, hn⟩ := P3.pw_of ho
  have L := fun w => Lib.hid (look_ok (t := t) (k := k) (a := a') (b := b') (c := c') (w := w) h hn)
  have R := fun w => Lib.hid (P4.Right_ok u true (by rw [P4.near_eq hu]; simp) w)
  have K := fun w => Lib.hid (late_is (t := t) (k := k) (r := r) (o := pw a' b' c' n') (w := w) h.1 hu (B := ltB s u) rfl)
  have HT := Lib.hid hT
  have L2 := fun w => Lib.hid (look_no (s := s) (r := r) (t := T) (k := k) (o := x) (w := w) fun q => hx q.2)
  clear hx
  clear ho hT
  generalize pw a' b' c' n' = o at *
  have G0 := Lib.hid (((Gr.refl w).al (.cells #[.int .i64 s, .bool t, .bool k, .int .i64 r, .int .i64 o] 23)).al (.cells #[.int .i64 0, .bool false, .bool false, .int .i64 0, .int .i64 0] 23))
  have N0 := Lib.hid ((Blk.new w #[.int .i64 s, .bool t, .bool k, .int .i64 r, .int .i64 o] 23).al (.cells #[.int .i64 0, .bool false, .bool false, .int .i64 0, .int .i64 0] 23))
  have N1 := Blk.new (w.alloc (.cells #[.int .i64 s, .bool t, .bool k, .int .i64 r, .int .i64 o] 23)) #[.int .i64 0, .bool false, .bool false, .int .i64 0, .int .i64 0] 23
  rw [World.size_alloc] at N1
  have N1 := Lib.hid N1
  generalize ltB s u = B at *
  clear h hn hu
  cases t
  · obtain rfl : B = T := HT.out
    go_enter Try.func54, Try.ntmps54
    go_wp2_with fail
    with_reducible refine (L _).out.mono ?_
    rintro e w1 ⟨rfl, g1⟩
    go_wp2_with fail
    with_reducible refine (R _).out.mono ?_
    rintro e w2 ⟨rfl, g2⟩
    have B0 := (N0.out.gr g1).gr g2
    obtain ⟨⟨q0, q1, q2, q3, q4⟩, -⟩ := own_cells B0
    go_wp2_with fail
    with_reducible refine (need_yes _ _).mono ?_
    rintro e w3 ⟨rfl, rfl⟩
    go_wp2_with fail
    with_reducible refine (K _).out.mono ?_
    rintro e w4 ⟨rfl, g4⟩
    have B0 := B0.gr g4
    have M := Lib.hid (Mid.mk B0 (((N1.out.gr g1).gr g2).gr g4) (((G0.out.trans g1).trans g2).trans g4) B x)
    clear q0 q1 q2 q3 q4
    obtain ⟨⟨q0, q1, q2, q3, q4⟩, z0, z1, z2, z3, z4⟩ := own_cells B0
    clear B0 g1 g2 g4 N0 N1 G0
    go_wp2_with fail
    with_reducible refine (L2 _).out.mono ?_
    rintro e w5 ⟨rfl, g5⟩
    have M := M.out.gr g5
    go_wp2_with fail
    exact ⟨rfl, rfl, M.2.2⟩
  · obtain rfl : T = true := by rw [← HT.out]; rfl
    go_enter Try.func54, Try.ntmps54
    go_wp2_with fail
    with_reducible refine (L _).out.mono ?_
    rintro e w1 ⟨rfl, g1⟩
    go_wp2_with fail
    with_reducible refine (R _).out.mono ?_
    rintro e w2 ⟨rfl, g2⟩
    have B0 := (N0.out.gr g1).gr g2
    obtain ⟨⟨q0, q1, q2, q3, q4⟩, z0, z1, z2, z3, z4⟩ := own_cells B0
    have M := Lib.hid (Mid.mk B0 ((N1.out.gr g1).gr g2) ((G0.out.trans g1).trans g2) true x)
    clear B0 g1 g2 N0 N1 G0
    go_wp2_with fail
    with_reducible refine (need_yes _ _).mono ?_
    rintro e w3 ⟨rfl, rfl⟩
    go_wp2_with fail
    with_reducible refine (L2 _).out.mono ?_
    rintro e w5 ⟨rfl, g5⟩
    have M := M.out.gr g5
    go_wp2_with fail
    exact ⟨rfl, rfl, M.2.2⟩
set_option maxHeartbeats 4000000 in
theorem woken_handed (h : OkS s r) (ho : OkW o) (hu : Tm u) (hx : OkN n) {T : Bool} (hT : (t || ltB s u) = T) :
    Calls Try.prog 54 #[ov s t k r o, .int .i64 u, .int .i64 (pw a b true n)] w fun e w' => e = .returned (.tuple #[ov s T k r (pw a b true n), .bool true]) ∧ Gr w w' := by
  obtain ⟨a', b', c', n', rfl, hn⟩ := P3.pw_of ho
  have L := fun w => Lib.hid (look_ok (t := t) (k := k) (a := a') (b := b') (c := c') (w := w) h hn)
  have R := fun w => Lib.hid (P4.Right_ok u true (by rw [P4.near_eq hu]; simp) w)
  have K := fun w => Lib.hid (late_is (t := t) (k := k) (r := r) (o := pw a' b' c' n') (w := w) h.1 hu (B := ltB s u) rfl)
  have HF := fun w => run_starv a b true n w
  have HT := Lib.hid hT
  have L2 := fun w => Lib.hid (look_ok (s := s) (r := r) (t := T) (k := k) (a := a) (b := b) (c := true) (w := w) h hx)
  clear hx
  clear ho hT
  generalize pw a b true n = x at *
  generalize pw a' b' c' n' = o at *
  have G0 := Lib.hid (((Gr.refl w).al (.cells #[.int .i64 s, .bool t, .bool k, .int .i64 r, .int .i64 o] 23)).al (.cells #[.int .i64 0, .bool false, .bool false, .int .i64 0, .int .i64 0] 23))
  have N0 := Lib.hid ((Blk.new w #[.int .i64 s, .bool t, .bool k, .int .i64 r, .int .i64 o] 23).al (.cells #[.int .i64 0, .bool false, .bool false, .int .i64 0, .int .i64 0] 23))
  have N1 := Blk.new (w.alloc (.cells #[.int .i64 s, .bool t, .bool k, .int .i64 r, .int .i64 o] 23)) #[.int .i64 0, .bool false, .bool false, .int .i64 0, .int .i64 0] 23
  rw [World.size_alloc] at N1
  have N1 := Lib.hid N1
  generalize ltB s u = B at *
  clear h hn hu
  cases t
  · obtain rfl : B = T := HT.out
    go_enter Try.func54, Try.ntmps54
    go_wp2_with fail
    with_reducible refine (L _).out.mono ?_
    rintro e w1 ⟨rfl, g1⟩
    go_wp2_with fail
    with_reducible refine (R _).out.mono ?_
    rintro e w2 ⟨rfl, g2⟩
    have B0 := (N0.out.gr g1).gr g2
    obtain ⟨⟨q0, q1, q2, q3, q4⟩, -⟩ := own_cells B0
    go_wp2_with fail
    with_reducible refine (need_yes _ _).mono ?_
    rintro e w3 ⟨rfl, rfl⟩
    go_wp2_with fail
    with_reducible refine (K _).out.mono ?_
    rintro e w4 ⟨rfl, g4⟩
    have B0 := B0.gr g4
    have M := Lib.hid (Mid.mk B0 (((N1.out.gr g1).gr g2).gr g4) (((G0.out.trans g1).trans g2).trans g4) B x)
    clear q0 q1 q2 q3 q4
    obtain ⟨⟨q0, q1, q2, q3, q4⟩, z0, z1, z2, z3, z4⟩ := own_cells B0
    clear B0 g1 g2 g4 N0 N1 G0
    go_wp2_with fail
    with_reducible refine (L2 _).out.mono ?_
    rintro e w5 ⟨rfl, g5⟩
    have M := M.out.gr g5
    obtain ⟨M0, M1, MG⟩ := M
    clear g5 q0 q1 q2 q3 q4 z0 z1 z2 z3 z4
    obtain ⟨⟨q0, q1, q2, q3, q4⟩, -⟩ := own_cells M0
    obtain ⟨⟨e0, e1, e2, e3, e4⟩, y0, y1, y2, y3, y4⟩ := own_cells M1
    have BF := own_st M1 s B k r x
    have GF := Lib.hid (own_gr (g := w.heap.size + 1) MG (Nat.le_succ _) s B k r x)
    obtain ⟨⟨c0, c1, c2, c3, c4⟩, -⟩ := own_cells BF
    clear M0 M1 BF MG
    go_wp2_with fail
    exact bodyPost_ret (v := .tuple #[ov s B k r x, .bool true]) (by simp [results, Try.results54, go_sem, c0, c1, c2, c3, c4]) rfl ⟨rfl, GF.out⟩
  · obtain rfl : T = true := by rw [← HT.out]; rfl
    go_enter Try.func54, Try.ntmps54
    go_wp2_with fail
    with_reducible refine (L _).out.mono ?_
    rintro e w1 ⟨rfl, g1⟩
    go_wp2_with fail
    with_reducible refine (R _).out.mono ?_
    rintro e w2 ⟨rfl, g2⟩
    have B0 := (N0.out.gr g1).gr g2
    obtain ⟨⟨q0, q1, q2, q3, q4⟩, z0, z1, z2, z3, z4⟩ := own_cells B0
    have M := Lib.hid (Mid.mk B0 ((N1.out.gr g1).gr g2) ((G0.out.trans g1).trans g2) true x)
    clear B0 g1 g2 N0 N1 G0
    go_wp2_with fail
    with_reducible refine (need_yes _ _).mono ?_
    rintro e w3 ⟨rfl, rfl⟩
    go_wp2_with fail
    with_reducible refine (L2 _).out.mono ?_
    rintro e w5 ⟨rfl, g5⟩
    have M := M.out.gr g5
    obtain ⟨M0, M1, MG⟩ := M
    clear g5 q0 q1 q2 q3 q4 z0 z1 z2 z3 z4
    obtain ⟨⟨q0, q1, q2, q3, q4⟩, -⟩ := own_cells M0
    obtain ⟨⟨e0, e1, e2, e3, e4⟩, y0, y1, y2, y3, y4⟩ := own_cells M1
    have BF := own_st M1 s true k r x
    have GF := Lib.hid (own_gr (g := w.heap.size + 1) MG (Nat.le_succ _) s true k r x)
    obtain ⟨⟨c0, c1, c2, c3, c4⟩, -⟩ := own_cells BF
    clear M0 M1 BF MG
    go_wp2_with fail
    exact bodyPost_ret (v := .tuple #[ov s true k r x, .bool true]) (by simp [results, Try.results54, go_sem, c0, c1, c2, c3, c4]) rfl ⟨rfl, GF.out⟩
set_option maxHeartbeats 4000000 in
theorem woken_back (h : OkS s r) (ho : OkW o) (hu : Tm u) (hx : OkN n) {T : Bool} (hT : (t || ltB s u) = T) :
    Calls Try.prog 54 #[ov s t k r o, .int .i64 u, .int .i64 (pw a b false n)] w fun e w' => e = .returned (.tuple #[ov s T true 0 (pw a b false n), .bool false]) ∧ Gr w w' := by
  obtain ⟨a', b', c', n', rfl, hn⟩ := P3.pw_of ho
  have L := fun w => Lib.hid (look_ok (t := t) (k := k) (a := a') (b := b') (c := c') (w := w) h hn)
  have R := fun w => Lib.hid (P4.Right_ok u true (by rw [P4.near_eq hu]; simp) w)
  have K := fun w => Lib.hid (late_is (t := t) (k := k) (r := r) (o := pw a' b' c' n') (w := w) h.1 hu (B := ltB s u) rfl)
  have HF := fun w => run_starv a b false n w
  have HT := Lib.hid hT
  have L2 := fun w => Lib.hid (look_ok (s := s) (r := r) (t := T) (k := k) (a := a) (b := b) (c := false) (w := w) h hx)
  clear hx
  clear ho hT
  generalize pw a b false n = x at *
  generalize pw a' b' c' n' = o at *
  have G0 := Lib.hid (((Gr.refl w).al (.cells #[.int .i64 s, .bool t, .bool k, .int .i64 r, .int .i64 o] 23)).al (.cells #[.int .i64 0, .bool false, .bool false, .int .i64 0, .int .i64 0] 23))
  have N0 := Lib.hid ((Blk.new w #[.int .i64 s, .bool t, .bool k, .int .i64 r, .int .i64 o] 23).al (.cells #[.int .i64 0, .bool false, .bool false, .int .i64 0, .int .i64 0] 23))
  have N1 := Blk.new (w.alloc (.cells #[.int .i64 s, .bool t, .bool k, .int .i64 r, .int .i64 o] 23)) #[.int .i64 0, .bool false, .bool false, .int .i64 0, .int .i64 0] 23
  rw [World.size_alloc] at N1
  have N1 := Lib.hid N1
  generalize ltB s u = B at *
  clear h hn hu
  cases t
  · obtain rfl : B = T := HT.out
    go_enter Try.func54, Try.ntmps54
    go_wp2_with fail
    with_reducible refine (L _).out.mono ?_
    rintro e w1 ⟨rfl, g1⟩
    go_wp2_with fail
    with_reducible refine (R _).out.mono ?_
    rintro e w2 ⟨rfl, g2⟩
    have B0 := (N0.out.gr g1).gr g2
    obtain ⟨⟨q0, q1, q2, q3, q4⟩, -⟩ := own_cells B0
    go_wp2_with fail
    with_reducible refine (need_yes _ _).mono ?_
    rintro e w3 ⟨rfl, rfl⟩
    go_wp2_with fail
    with_reducible refine (K _).out.mono ?_
    rintro e w4 ⟨rfl, g4⟩
    have B0 := B0.gr g4
    have M := Lib.hid (Mid.mk B0 (((N1.out.gr g1).gr g2).gr g4) (((G0.out.trans g1).trans g2).trans g4) B x)
    clear q0 q1 q2 q3 q4
    obtain ⟨⟨q0, q1, q2, q3, q4⟩, z0, z1, z2, z3, z4⟩ := own_cells B0
    clear B0 g1 g2 g4 N0 N1 G0
    go_wp2_with fail
    with_reducible refine (L2 _).out.mono ?_
    rintro e w5 ⟨rfl, g5⟩
    have M := M.out.gr g5
    obtain ⟨M0, M1, MG⟩ := M
    clear g5 q0 q1 q2 q3 q4 z0 z1 z2 z3 z4
    obtain ⟨⟨q0, q1, q2, q3, q4⟩, z0, z1, z2, z3, z4⟩ := own_cells M0
    obtain ⟨⟨e0, e1, e2, e3, e4⟩, y0, y1, y2, y3, y4⟩ := own_cells M1
    have hne : w.heap.size ≠ w.heap.size + 1 := by omega
    have BF := own_st ((M1.st (p := ⟨w.heap.size, 2, none⟩) hne (.bool true)).st (p := ⟨w.heap.size, 3, none⟩) hne (.int .i64 0)) s B true 0 x
    have GF := Lib.hid (own_gr (g := w.heap.size + 1) ((MG.st (p := ⟨w.heap.size, 2, none⟩) (Nat.le_refl _) (.bool true)).st (p := ⟨w.heap.size, 3, none⟩) (Nat.le_refl _) (.int .i64 0)) (Nat.le_succ _) s B true 0 x)
    obtain ⟨⟨c0, c1, c2, c3, c4⟩, -⟩ := own_cells BF
    clear M0 M1 BF MG
    go_wp2_with fail
    exact bodyPost_ret (v := .tuple #[ov s B true 0 x, .bool false]) (by simp [results, Try.results54, go_sem, c0, c1, c2, c3, c4]) rfl ⟨rfl, GF.out⟩
  · obtain rfl : T = true := by rw [← HT.out]; rfl
    go_enter Try.func54, Try.ntmps54
    go_wp2_with fail
    with_reducible refine (L _).out.mono ?_
    rintro e w1 ⟨rfl, g1⟩
    go_wp2_with fail
    with_reducible refine (R _).out.mono ?_
    rintro e w2 ⟨rfl, g2⟩
    have B0 := (N0.out.gr g1).gr g2
    obtain ⟨⟨q0, q1, q2, q3, q4⟩, z0, z1, z2, z3, z4⟩ := own_cells B0
    have M := Lib.hid (Mid.mk B0 ((N1.out.gr g1).gr g2) ((G0.out.trans g1).trans g2) true x)
    clear B0 g1 g2 N0 N1 G0
    go_wp2_with fail
    with_reducible refine (need_yes _ _).mono ?_
    rintro e w3 ⟨rfl, rfl⟩
    go_wp2_with fail
    with_reducible refine (L2 _).out.mono ?_
    rintro e w5 ⟨rfl, g5⟩
    have M := M.out.gr g5
    obtain ⟨M0, M1, MG⟩ := M
    clear g5 q0 q1 q2 q3 q4 z0 z1 z2 z3 z4
    obtain ⟨⟨q0, q1, q2, q3, q4⟩, z0, z1, z2, z3, z4⟩ := own_cells M0
    obtain ⟨⟨e0, e1, e2, e3, e4⟩, y0, y1, y2, y3, y4⟩ := own_cells M1
    have hne : w.heap.size ≠ w.heap.size + 1 := by omega
    have BF := own_st ((M1.st (p := ⟨w.heap.size, 2, none⟩) hne (.bool true)).st (p := ⟨w.heap.size, 3, none⟩) hne (.int .i64 0)) s true true 0 x
    have GF := Lib.hid (own_gr (g := w.heap.size + 1) ((MG.st (p := ⟨w.heap.size, 2, none⟩) (Nat.le_refl _) (.bool true)).st (p := ⟨w.heap.size, 3, none⟩) (Nat.le_refl _) (.int .i64 0)) (Nat.le_succ _) s true true 0 x)
    obtain ⟨⟨c0, c1, c2, c3, c4⟩, -⟩ := own_cells BF
    clear M0 M1 BF MG
    go_wp2_with fail
    exact bodyPost_ret (v := .tuple #[ov s true true 0 x, .bool false]) (by simp [results, Try.results54, go_sem, c0, c1, c2, c3, c4]) rfl ⟨rfl, GF.out⟩
end
end P14
end Go.Proofs.Ytddgihbgdlnlbaa
