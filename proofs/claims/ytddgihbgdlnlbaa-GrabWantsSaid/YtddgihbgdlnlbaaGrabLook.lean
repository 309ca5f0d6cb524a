/-
  Package grab: held, look.
-/
import Derived.Test.YtddgihbgdlnlbaaGrab
import Derived.Test.YtddgihbgdlnlbaaFlagsWord
import Derived.Test.YtddgihbgdlnlbaaClockAway
import Derived.Test.YtddgihbgdlnlbaaSpinCan
namespace Go.Proofs.Ytddgihbgdlnlbaa
open Go.ChangeShapes Go.WideShapes Go.ChangeAt Go.RowKit
set_option linter.unusedVariables false
set_option linter.unusedSimpArgs false

namespace P14
open P3 (fl pw)
open P4 (Tm)

/-- What is remembered, as a value. -/
abbrev ov (s : Int) (t k : Bool) (r o : Int) : Value := .agg #[.int .i64 s, .bool t, .bool k, .int .i64 r, .int .i64 o]
/-- What is remembered may be, as to all but its word. -/
def OkS (s r : Int) : Prop := (s = -1 ∨ Tm s) ∧ 0 ≤ r ∧ r ≤ 4
/-- A word. -/
def OkW (o : Int) : Prop := 0 ≤ o ∧ o < 2147483648
/-- How many may wait. -/
def OkN (n : Int) : Prop := 0 ≤ n ∧ n < 268435456

theorem own_st {W : World} {g : Nat} {v0 v1 v2 v3 v4 : Value} {T : TypeId} (B : Blk W g #[v0, v1, v2, v3, v4] T) (s : Int) (t k : Bool) (r o : Int) :
    Blk (((((W.setCell ⟨g, 0, none⟩ (.int .i64 s)).setCell ⟨g, 1, none⟩ (.bool t)).setCell ⟨g, 2, none⟩ (.bool k)).setCell ⟨g, 3, none⟩ (.int .i64 r)).setCell ⟨g, 4, none⟩ (.int .i64 o)) g #[.int .i64 s, .bool t, .bool k, .int .i64 r, .int .i64 o] T :=
  ((((B.set 0 (.int .i64 s)).set 1 (.bool t)).set 2 (.bool k)).set 3 (.int .i64 r)).set 4 (.int .i64 o)
theorem own_gr {w W : World} {g : Nat} (G : Gr w W) (h : w.heap.size ≤ g) (s : Int) (t k : Bool) (r o : Int) :
    Gr w (((((W.setCell ⟨g, 0, none⟩ (.int .i64 s)).setCell ⟨g, 1, none⟩ (.bool t)).setCell ⟨g, 2, none⟩ (.bool k)).setCell ⟨g, 3, none⟩ (.int .i64 r)).setCell ⟨g, 4, none⟩ (.int .i64 o)) :=
  ((((G.st (p := ⟨g, 0, none⟩) h _).st (p := ⟨g, 1, none⟩) h _).st (p := ⟨g, 2, none⟩) h _).st (p := ⟨g, 3, none⟩) h _).st (p := ⟨g, 4, none⟩) h _
/-- All cells of what is remembered, in a block. -/
theorem own_cells {W : World} {g : Nat} {v0 v1 v2 v3 v4 : Value} {T : TypeId} (B : Blk W g #[v0, v1, v2, v3, v4] T) :
    (W.cell? ⟨g, 0, none⟩ = some v0 ∧ W.cell? ⟨g, 1, none⟩ = some v1 ∧ W.cell? ⟨g, 2, none⟩ = some v2 ∧ W.cell? ⟨g, 3, none⟩ = some v3 ∧ W.cell? ⟨g, 4, none⟩ = some v4) ∧
    (W.frozen? ⟨g, 0, none⟩ = false ∧ W.frozen? ⟨g, 1, none⟩ = false ∧ W.frozen? ⟨g, 2, none⟩ = false ∧ W.frozen? ⟨g, 3, none⟩ = false ∧ W.frozen? ⟨g, 4, none⟩ = false) :=
  ⟨⟨(B.at_ (k := 0) rfl).1, (B.at_ (k := 1) rfl).1, (B.at_ (k := 2) rfl).1, (B.at_ (k := 3) rfl).1, (B.at_ (k := 4) rfl).1⟩, (B.at_ (k := 0) rfl).2, (B.at_ (k := 1) rfl).2, (B.at_ (k := 2) rfl).2, (B.at_ (k := 3) rfl).2, (B.at_ (k := 4) rfl).2⟩
/-- Whether two holds are the same. -/
def hEq (a b c d : Bool) : Bool := decide (a = c ∧ b = d)
theorem cellsOfBool : Try.prog.cellsOf 4 = 1 := by kernel_rfl
theorem plainBool : Try.prog.plainKey 4 = true := by kernel_rfl
set_option maxHeartbeats 1000000 in
theorem run_hold_eql (a b c d : Bool) (w : World) : (binOp .eql 53 (.agg #[.bool a, .bool b]) (.agg #[.bool c, .bool d])).run Try.prog w = .ok (.bool (hEq a b c d)) w := by
  cases a <;> cases b <;> cases c <;> cases d <;> kernel_rfl
set_option maxHeartbeats 1000000 in
theorem run_hold_neq (a b c d : Bool) (w : World) : (binOp .neq 53 (.agg #[.bool a, .bool b]) (.agg #[.bool c, .bool d])).run Try.prog w = .ok (.bool (!hEq a b c d)) w := by
  cases a <;> cases b <;> cases c <;> cases d <;> kernel_rfl

set_option maxHeartbeats 1000000 in
theorem held_is (a b c : Bool) (n : Int) (w : World) : Calls Try.prog 36 #[fl a b c n] w fun e w' => e = .returned (.agg #[.bool a, .bool c]) ∧ Gr w w' := by
  go_enter Try.func36, Try.ntmps36
  go_wp2_with fail
  exact bodyPost_ret (v := .agg #[.bool a, .bool c]) (by simp [results, Try.results36, go_sem]) rfl ⟨rfl, (Gr.refl w).al _ |>.al _⟩

section
variable {s r : Int} {t k a b c : Bool} {n : Int} {w : World}
set_option maxHeartbeats 2000000 in
theorem look_ok (h : OkS s r) (hn : OkN n) : Calls Try.prog 33 #[ov s t k r (pw a b c n)] w fun e w' => e = .returned (fl a b c n) ∧ Gr w w' := by
  obtain ⟨hs, hr0, hr4⟩ := h
  have U := fun w => Lib.hid (P3.Unpack_ok a b c n hn w)
  have SF := fun w => Lib.hid (sureF_yes a b c n w)
  clear hn
  generalize pw a b c n = v at *
  by_cases h1 : s = -1
  · subst h1
    clear hs
    go_enter Try.func33, Try.ntmps33
    go_wp2_with fail
    with_reducible refine (need_yes _ _).mono ?_
    rintro e w1 ⟨rfl, rfl⟩
    go_wp2_with fail
    with_reducible refine (need_yes _ _).mono ?_
    rintro e w1 ⟨rfl, rfl⟩
    go_wp2_with fail
    with_reducible refine (U _).out.mono ?_
    rintro e w1 ⟨rfl, g1⟩
    go_wp2_with fail
    with_reducible refine (SF _).out.mono ?_
    rintro e w2 ⟨rfl, g2⟩
    have B1 := ((Blk.new (w.alloc (.cells #[.int .i64 (-1), .bool t, .bool k, .int .i64 r, .int .i64 v] 23)) #[.bool false, .bool false, .bool false, .int .i64 0] 43).gr g1).gr g2
    rw [World.size_alloc] at B1
    have G := (((Gr.refl w).al (.cells #[.int .i64 (-1), .bool t, .bool k, .int .i64 r, .int .i64 v] 23)).al (.cells #[.bool false, .bool false, .bool false, .int .i64 0] 43)).trans g1 |>.trans g2
    obtain ⟨a0, y0⟩ := B1.at_ (k := 0) (v := .bool false) rfl
    obtain ⟨a1, y1⟩ := B1.at_ (k := 1) (v := .bool false) rfl
    obtain ⟨a2, y2⟩ := B1.at_ (k := 2) (v := .bool false) rfl
    obtain ⟨a3, y3⟩ := B1.at_ (k := 3) (v := .int .i64 0) rfl
    have BF := (((B1.set 0 (.bool a)).set 1 (.bool b)).set 2 (.bool c)).set 3 (.int .i64 n)
    have GF := Lib.hid ((((G.st (p := ⟨w.heap.size + 1, 0, none⟩) (Nat.le_succ _) (.bool a)).st (p := ⟨w.heap.size + 1, 1, none⟩) (Nat.le_succ _) (.bool b)).st (p := ⟨w.heap.size + 1, 2, none⟩) (Nat.le_succ _) (.bool c)).st (p := ⟨w.heap.size + 1, 3, none⟩) (Nat.le_succ _) (.int .i64 n))
    obtain ⟨c0, x0⟩ := BF.at_ (k := 0) (v := .bool a) rfl
    obtain ⟨c1, x1⟩ := BF.at_ (k := 1) (v := .bool b) rfl
    obtain ⟨c2, x2⟩ := BF.at_ (k := 2) (v := .bool c) rfl
    obtain ⟨c3, x3⟩ := BF.at_ (k := 3) (v := .int .i64 n) rfl
    clear g1 g2 B1 BF G
    go_wp2_with fail
    exact bodyPost_ret (v := fl a b c n) (by simp [results, Try.results33, go_sem, c0, c1, c2, c3]) rfl ⟨rfl, GF.out⟩
  · have hs' : Tm s := hs.resolve_left h1
    have R := fun w => Lib.hid (P4.Right_ok s true (by rw [P4.near_eq hs']; simp) w)
    clear hs hs'
    go_enter Try.func33, Try.ntmps33
    go_wp2_with fail
    with_reducible refine (R _).out.mono ?_
    rintro e w0 ⟨rfl, g0⟩
    have B0 := (((Blk.new w #[.int .i64 s, .bool t, .bool k, .int .i64 r, .int .i64 v] 23).al (.cells #[.bool false, .bool false, .bool false, .int .i64 0] 43)).gr g0)
    obtain ⟨q3, z3⟩ := B0.at_ (k := 3) (v := .int .i64 r) rfl
    obtain ⟨q4, z4⟩ := B0.at_ (k := 4) (v := .int .i64 v) rfl
    go_wp2_with fail
    with_reducible refine (need_yes _ _).mono ?_
    rintro e w1 ⟨rfl, rfl⟩
    go_wp2_with fail
    with_reducible refine (need_yes _ _).mono ?_
    rintro e w1 ⟨rfl, rfl⟩
    go_wp2_with fail
    with_reducible refine (U _).out.mono ?_
    rintro e w1 ⟨rfl, g1⟩
    go_wp2_with fail
    with_reducible refine (SF _).out.mono ?_
    rintro e w2 ⟨rfl, g2⟩
    have B1 := (((Blk.new (w.alloc (.cells #[.int .i64 s, .bool t, .bool k, .int .i64 r, .int .i64 v] 23)) #[.bool false, .bool false, .bool false, .int .i64 0] 43).gr g0).gr g1).gr g2
    rw [World.size_alloc] at B1
    have G := (((Gr.refl w).al (.cells #[.int .i64 s, .bool t, .bool k, .int .i64 r, .int .i64 v] 23)).al (.cells #[.bool false, .bool false, .bool false, .int .i64 0] 43)).trans g0 |>.trans g1 |>.trans g2
    clear q3 z3 q4 z4 B0
    obtain ⟨a0, y0⟩ := B1.at_ (k := 0) (v := .bool false) rfl
    obtain ⟨a1, y1⟩ := B1.at_ (k := 1) (v := .bool false) rfl
    obtain ⟨a2, y2⟩ := B1.at_ (k := 2) (v := .bool false) rfl
    obtain ⟨a3, y3⟩ := B1.at_ (k := 3) (v := .int .i64 0) rfl
    have BF := (((B1.set 0 (.bool a)).set 1 (.bool b)).set 2 (.bool c)).set 3 (.int .i64 n)
    have GF := Lib.hid ((((G.st (p := ⟨w.heap.size + 1, 0, none⟩) (Nat.le_succ _) (.bool a)).st (p := ⟨w.heap.size + 1, 1, none⟩) (Nat.le_succ _) (.bool b)).st (p := ⟨w.heap.size + 1, 2, none⟩) (Nat.le_succ _) (.bool c)).st (p := ⟨w.heap.size + 1, 3, none⟩) (Nat.le_succ _) (.int .i64 n))
    obtain ⟨c0, x0⟩ := BF.at_ (k := 0) (v := .bool a) rfl
    obtain ⟨c1, x1⟩ := BF.at_ (k := 1) (v := .bool b) rfl
    obtain ⟨c2, x2⟩ := BF.at_ (k := 2) (v := .bool c) rfl
    obtain ⟨c3, x3⟩ := BF.at_ (k := 3) (v := .int .i64 n) rfl
    clear g1 g2 B1 BF G
    go_wp2_with fail
    exact bodyPost_ret (v := fl a b c n) (by simp [results, Try.results33, go_sem, c0, c1, c2, c3]) rfl ⟨rfl, GF.out⟩
set_option maxHeartbeats 2000000 in
theorem look_no {o : Int} (h : ¬ (OkS s r ∧ OkW o)) : Calls Try.prog 33 #[ov s t k r o] w fun e w' => e = .panicked (pan 1) ∧ Gr w w' := by
  by_cases h1 : s = -1
  · subst h1
    by_cases hr : 0 ≤ r ∧ r ≤ 4
    · have ho : ¬ OkW o := fun q => h ⟨⟨.inl rfl, hr⟩, q⟩
      have U := fun w => Lib.hid (P3.Unpack_no o ho w)
      have SF := fun w => Lib.hid (sureF_no false false false 0 (y := 1) rfl w)
      obtain ⟨hr0, hr4⟩ := hr
      clear h ho
      go_enter Try.func33, Try.ntmps33
      go_wp2_with fail
      with_reducible refine (need_yes _ _).mono ?_
      rintro e w1 ⟨rfl, rfl⟩
      go_wp2_with fail
      with_reducible refine (need_yes _ _).mono ?_
      rintro e w1 ⟨rfl, rfl⟩
      go_wp2_with fail
      with_reducible refine (U _).out.mono ?_
      rintro e w1 ⟨rfl, g1⟩
      go_wp2_with fail
      with_reducible refine (SF _).out.mono ?_
      rintro e w2 ⟨rfl, g2⟩
      have G := (((Gr.refl w).al (.cells #[.int .i64 (-1), .bool t, .bool k, .int .i64 r, .int .i64 o] 23)).al (.cells #[.bool false, .bool false, .bool false, .int .i64 0] 43)).trans g1 |>.trans g2
      go_wp2_with fail
      exact ⟨rfl, rfl, G⟩
    · clear h
      have G := (((Gr.refl w).al (.cells #[.int .i64 (-1), .bool t, .bool k, .int .i64 r, .int .i64 o] 23)).al (.cells #[.bool false, .bool false, .bool false, .int .i64 0] 43))
      by_cases hr0 : 0 ≤ r
      · have hr4 : decide (r ≤ 4) = false := decide_eq_false (by omega)
        clear hr
        go_enter Try.func33, Try.ntmps33
        go_wp2_with fail
        with_reducible refine (need_yes _ _).mono ?_
        rintro e w1 ⟨rfl, rfl⟩
        go_wp2_with fail
        with_reducible refine (need_no _ _).mono ?_
        rintro e w1 ⟨rfl, rfl⟩
        go_wp2_with fail
        exact ⟨rfl, rfl, G⟩
      · clear hr
        go_enter Try.func33, Try.ntmps33
        go_wp2_with fail
        with_reducible refine (need_yes _ _).mono ?_
        rintro e w1 ⟨rfl, rfl⟩
        go_wp2_with fail
        with_reducible refine (need_no _ _).mono ?_
        rintro e w1 ⟨rfl, rfl⟩
        go_wp2_with fail
        exact ⟨rfl, rfl, G⟩
  · by_cases hs : Tm s
    · have R := fun w => Lib.hid (P4.Right_ok s true (by rw [P4.near_eq hs]; simp) w)
      have G0 := (((Gr.refl w).al (.cells #[.int .i64 s, .bool t, .bool k, .int .i64 r, .int .i64 o] 23)).al (.cells #[.bool false, .bool false, .bool false, .int .i64 0] 43))
      by_cases hr : 0 ≤ r ∧ r ≤ 4
      · have ho : ¬ OkW o := fun q => h ⟨⟨.inr hs, hr⟩, q⟩
        have U := fun w => Lib.hid (P3.Unpack_no o ho w)
        have SF := fun w => Lib.hid (sureF_no false false false 0 (y := 1) rfl w)
        obtain ⟨hr0, hr4⟩ := hr
        clear h ho hs
        go_enter Try.func33, Try.ntmps33
        go_wp2_with fail
        with_reducible refine (R _).out.mono ?_
        rintro e w0 ⟨rfl, g0⟩
        have B0 := (((Blk.new w #[.int .i64 s, .bool t, .bool k, .int .i64 r, .int .i64 o] 23).al (.cells #[.bool false, .bool false, .bool false, .int .i64 0] 43)).gr g0)
        obtain ⟨q3, z3⟩ := B0.at_ (k := 3) (v := .int .i64 r) rfl
        obtain ⟨q4, z4⟩ := B0.at_ (k := 4) (v := .int .i64 o) rfl
        go_wp2_with fail
        with_reducible refine (need_yes _ _).mono ?_
        rintro e w1 ⟨rfl, rfl⟩
        go_wp2_with fail
        with_reducible refine (need_yes _ _).mono ?_
        rintro e w1 ⟨rfl, rfl⟩
        go_wp2_with fail
        with_reducible refine (U _).out.mono ?_
        rintro e w1 ⟨rfl, g1⟩
        go_wp2_with fail
        with_reducible refine (SF _).out.mono ?_
        rintro e w2 ⟨rfl, g2⟩
        have G := G0.trans g0 |>.trans g1 |>.trans g2
        go_wp2_with fail
        exact ⟨rfl, rfl, G⟩
      · clear h hs
        by_cases hr0 : 0 ≤ r
        · have hr4 : decide (r ≤ 4) = false := decide_eq_false (by omega)
          clear hr
          go_enter Try.func33, Try.ntmps33
          go_wp2_with fail
          with_reducible refine (R _).out.mono ?_
          rintro e w0 ⟨rfl, g0⟩
          obtain ⟨q3, z3⟩ := (((Blk.new w #[.int .i64 s, .bool t, .bool k, .int .i64 r, .int .i64 o] 23).al (.cells #[.bool false, .bool false, .bool false, .int .i64 0] 43)).gr g0).at_ (k := 3) (v := .int .i64 r) rfl
          go_wp2_with fail
          with_reducible refine (need_yes _ _).mono ?_
          rintro e w1 ⟨rfl, rfl⟩
          go_wp2_with fail
          with_reducible refine (need_no _ _).mono ?_
          rintro e w1 ⟨rfl, rfl⟩
          go_wp2_with fail
          exact ⟨rfl, rfl, G0.trans g0⟩
        · clear hr
          go_enter Try.func33, Try.ntmps33
          go_wp2_with fail
          with_reducible refine (R _).out.mono ?_
          rintro e w0 ⟨rfl, g0⟩
          obtain ⟨q3, z3⟩ := (((Blk.new w #[.int .i64 s, .bool t, .bool k, .int .i64 r, .int .i64 o] 23).al (.cells #[.bool false, .bool false, .bool false, .int .i64 0] 43)).gr g0).at_ (k := 3) (v := .int .i64 r) rfl
          go_wp2_with fail
          with_reducible refine (need_yes _ _).mono ?_
          rintro e w1 ⟨rfl, rfl⟩
          go_wp2_with fail
          with_reducible refine (need_no _ _).mono ?_
          rintro e w1 ⟨rfl, rfl⟩
          go_wp2_with fail
          exact ⟨rfl, rfl, G0.trans g0⟩
    · have hs1 : (s == -1) = false := beq_eq_false_iff_ne.2 h1
      have R := fun w => Lib.hid (P4.Right_ok s false (P4.near_ne hs) w)
      have G0 := (((Gr.refl w).al (.cells #[.int .i64 s, .bool t, .bool k, .int .i64 r, .int .i64 o] 23)).al (.cells #[.bool false, .bool false, .bool false, .int .i64 0] 43))
      clear h hs
      go_enter Try.func33, Try.ntmps33
      go_wp2_with fail
      with_reducible refine (R _).out.mono ?_
      rintro e w0 ⟨rfl, g0⟩
      go_wp2_with fail
      with_reducible refine (need_no _ _).mono ?_
      rintro e w1 ⟨rfl, rfl⟩
      go_wp2_with fail
      exact ⟨rfl, rfl, G0.trans g0⟩
/-- How look ends: with the word's flags, or by giving up. -/
def Lk (s r o : Int) (y : Int) (a b c : Bool) (n : Int) : Prop := (y = 0 ∧ OkS s r ∧ OkN n ∧ o = pw a b c n) ∨ (y = 1 ∧ ¬ (OkS s r ∧ OkW o))
theorem Lk.any (s r o : Int) : ∃ y a b c n, Lk s r o y a b c n := by
  by_cases h : OkS s r ∧ OkW o
  · obtain ⟨a, b, c, n, e, hn⟩ := P3.pw_of h.2
    exact ⟨0, a, b, c, n, .inl ⟨rfl, h.1, hn, e⟩⟩
  · exact ⟨1, false, false, false, 0, .inr ⟨rfl, h⟩⟩
theorem look_is {o y : Int} (h : Lk s r o y a b c n) (w : World) : Calls Try.prog 33 #[ov s t k r o] w (Ans y (fl a b c n) w) := by
  rcases h with ⟨rfl, h1, h2, rfl⟩ | ⟨rfl, h⟩
  · exact (look_ok h1 h2).mono fun e w' ⟨he, hg⟩ => ⟨hg, .inl ⟨rfl, he⟩⟩
  · exact (look_no h).mono fun e w' ⟨he, hg⟩ => ⟨hg, .inr ⟨by decide, he⟩⟩
end
end P14
end Go.Proofs.Ytddgihbgdlnlbaa
