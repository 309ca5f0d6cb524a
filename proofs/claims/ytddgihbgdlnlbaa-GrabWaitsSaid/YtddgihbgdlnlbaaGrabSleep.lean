/-
  Package grab: what Sleep answers.
-/
import Derived.Test.YtddgihbgdlnlbaaGrabTime
import Derived.Laws.StructEq
import Derived.ChangeKeysEq
import Derived.RegionTactic
namespace Go.Proofs.Ytddgihbgdlnlbaa
open Go.ChangeShapes Go.WideShapes Go.ChangeAt Go.RowKit Go.Shelf
set_option linter.unusedVariables false
set_option linter.unusedSimpArgs false

namespace P14
open P3 (fl pw)
open P4 (Tm)

/-- Whether what is remembered is the same. -/
def ovEq (s : Int) (t k : Bool) (r o : Int) (s' : Int) (t' k' : Bool) (r' o' : Int) : Bool := decide (s = s' ∧ t = t' ∧ k = k' ∧ r = r' ∧ o = o')
theorem ovEq_refl (s : Int) (t k : Bool) (r o : Int) : ovEq s t k r o s t k r o = true := by simp [ovEq]
set_option maxHeartbeats 2000000 in
theorem run_own_eql (s : Int) (t k : Bool) (r o : Int) (s' : Int) (t' k' : Bool) (r' o' : Int) (w : World) :
    (binOp .eql 23 (ov s t k r o) (ov s' t' k' r' o')).run Try.prog w = .ok (.bool (ovEq s t k r o s' t' k' r' o')) w := by
  by_cases h1 : s = s'
  · by_cases h2 : t = t'
    · by_cases h3 : k = k'
      · by_cases h4 : r = r'
        · by_cases h5 : o = o'
          · have e : ovEq s t k r o s' t' k' r' o' = true := by simp [ovEq, h1, h2, h3, h4, h5]
            rw [e]
            subst h1 h2 h3 h4 h5
            go_simp
          · have e : ovEq s t k r o s' t' k' r' o' = false := by simp [ovEq, h5]
            have h6 : (o == o') = false := beq_eq_false_iff_ne.2 h5
            rw [e]
            subst h1 h2 h3 h4
            go_simp
        · have e : ovEq s t k r o s' t' k' r' o' = false := by simp [ovEq, h4]
          have h6 : (r == r') = false := beq_eq_false_iff_ne.2 h4
          rw [e]
          subst h1 h2 h3
          go_simp
      · have e : ovEq s t k r o s' t' k' r' o' = false := by simp [ovEq, h3]
        have h6 : (k == k') = false := beq_eq_false_iff_ne.2 h3
        rw [e]
        subst h1 h2
        go_simp
    · have e : ovEq s t k r o s' t' k' r' o' = false := by simp [ovEq, h2]
      have h6 : (t == t') = false := beq_eq_false_iff_ne.2 h2
      rw [e]
      subst h1
      go_simp
  · have e : ovEq s t k r o s' t' k' r' o' = false := by simp [ovEq, h1]
    have h6 : (s == s') = false := beq_eq_false_iff_ne.2 h1
    rw [e]
    go_simp
set_option maxHeartbeats 2000000 in
theorem run_own_neq (s : Int) (t k : Bool) (r o : Int) (s' : Int) (t' k' : Bool) (r' o' : Int) (w : World) :
    (binOp .neq 23 (ov s t k r o) (ov s' t' k' r' o')).run Try.prog w = .ok (.bool (!ovEq s t k r o s' t' k' r' o')) w := by
  by_cases h1 : s = s'
  · by_cases h2 : t = t'
    · by_cases h3 : k = k'
      · by_cases h4 : r = r'
        · by_cases h5 : o = o'
          · have e : ovEq s t k r o s' t' k' r' o' = true := by simp [ovEq, h1, h2, h3, h4, h5]
            rw [e]
            subst h1 h2 h3 h4 h5
            go_simp
          · have e : ovEq s t k r o s' t' k' r' o' = false := by simp [ovEq, h5]
            have h6 : (o == o') = false := beq_eq_false_iff_ne.2 h5
            rw [e]
            subst h1 h2 h3 h4
            go_simp
        · have e : ovEq s t k r o s' t' k' r' o' = false := by simp [ovEq, h4]
          have h6 : (r == r') = false := beq_eq_false_iff_ne.2 h4
          rw [e]
          subst h1 h2 h3
          go_simp
      · have e : ovEq s t k r o s' t' k' r' o' = false := by simp [ovEq, h3]
        have h6 : (k == k') = false := beq_eq_false_iff_ne.2 h3
        rw [e]
        subst h1 h2
        go_simp
    · have e : ovEq s t k r o s' t' k' r' o' = false := by simp [ovEq, h2]
      have h6 : (t == t') = false := beq_eq_false_iff_ne.2 h2
      rw [e]
      subst h1
      go_simp
  · have e : ovEq s t k r o s' t' k' r' o' = false := by simp [ovEq, h1]
    have h6 : (s == s') = false := beq_eq_false_iff_ne.2 h1
    rw [e]
    go_simp
section
variable {s r : Int} {t k a b c : Bool} {n u o x S : Int} {w : World}
set_option maxHeartbeats 2000000 in
theorem Sleep_cl {W : World} {g h : Nat} (B : Blk W g #[.int .i64 s, .bool t, .bool k, .int .i64 r, .int .i64 o] 23) (D : Blk W h #[.int .i64 u] 3)
    (hc : ∀ W, Calls Try.prog 52 #[ov s t k r o, .int .i64 u] W fun e w' => e = .returned (ov S t k r o) ∧ Gr W w') :
    Calls Try.prog 51 #[.pointer (some ⟨g, 0, none⟩), .pointer (some ⟨h, 0, none⟩)] W fun e w' => e = .returned (ov S t k r o) ∧ Gr W w' := by
  have HC := fun W => Lib.hid (hc W)
  have hlt := B.lt
  have hlt2 := D.lt
  obtain ⟨⟨q0, q1, q2, q3, q4⟩, -⟩ := own_cells B
  obtain ⟨d0, -⟩ := D.at_ (k := 0) rfl
  have N1 := Lib.hid (Blk.new W #[.int .i64 0, .bool false, .bool false, .int .i64 0, .int .i64 0] 23)
  have G0 := Lib.hid ((Gr.refl W).al (.cells #[.int .i64 0, .bool false, .bool false, .int .i64 0, .int .i64 0] 23))
  clear hc B D
  go_enter Try.func51, Try.ntmps51
  go_wp2_with fail
  with_reducible refine (HC _).out.mono ?_
  rintro e w1 ⟨rfl, g1⟩
  have B1 := N1.out.gr g1
  obtain ⟨⟨e0, e1, e2, e3, e4⟩, y0, y1, y2, y3, y4⟩ := own_cells B1
  have BF := own_st B1 S t k r o
  have GF := Lib.hid (own_gr (g := W.heap.size) (G0.out.trans g1) (Nat.le_refl _) S t k r o)
  obtain ⟨⟨c0, c1, c2, c3, c4⟩, -⟩ := own_cells BF
  clear g1 B1 BF
  go_wp2_with fail
  exact bodyPost_ret (v := ov S t k r o) (by simp [results, Try.results51, go_sem, c0, c1, c2, c3, c4]) rfl ⟨rfl, GF.out⟩
set_option maxHeartbeats 2000000 in
theorem Sleep_up {W : World} {g h : Nat} {y : Int} (B : Blk W g #[.int .i64 s, .bool t, .bool k, .int .i64 r, .int .i64 o] 23) (D : Blk W h #[.int .i64 u] 3)
    (hc : ∀ W, Calls Try.prog 52 #[ov s t k r o, .int .i64 u] W fun e w' => e = .panicked (pan y) ∧ Gr W w') :
    Calls Try.prog 51 #[.pointer (some ⟨g, 0, none⟩), .pointer (some ⟨h, 0, none⟩)] W fun e w' => e = .panicked (pan y) ∧ Gr W w' := by
  have HC := fun W => Lib.hid (hc W)
  have hlt := B.lt
  have hlt2 := D.lt
  obtain ⟨⟨q0, q1, q2, q3, q4⟩, -⟩ := own_cells B
  obtain ⟨d0, -⟩ := D.at_ (k := 0) rfl
  have G0 := Lib.hid ((Gr.refl W).al (.cells #[.int .i64 0, .bool false, .bool false, .int .i64 0, .int .i64 0] 23))
  clear hc B D
  go_enter Try.func51, Try.ntmps51
  go_wp2_with fail
  with_reducible refine (HC _).out.mono ?_
  rintro e w1 ⟨rfl, g1⟩
  go_wp2_with fail
  exact ⟨rfl, rfl, G0.out.trans g1⟩
set_option maxHeartbeats 2000000 in
theorem Sleep_ok (hc : ∀ W, Calls Try.prog 52 #[ov s t k r o, .int .i64 u] W fun e w' => e = .returned (ov S t k r o) ∧ Gr W w') :
    Calls Try.prog 23 #[ov s t k r o, .int .i64 u] w fun e w' => e = .returned (.tuple #[ov S t k r o, .bool (decide (S = s)), .int .i64 0]) ∧ Gr w w' := by
  have N0 := ((Blk.new w #[.int .i64 s, .bool t, .bool k, .int .i64 r, .int .i64 o] 23).al (.cells #[.int .i64 u] 3)).al (.cells #[.int .i64 0, .bool false, .bool false, .int .i64 0, .int .i64 0] 23)
  have N1 := (Blk.new (w.alloc (.cells #[.int .i64 s, .bool t, .bool k, .int .i64 r, .int .i64 o] 23)) #[.int .i64 u] 3).al (.cells #[.int .i64 0, .bool false, .bool false, .int .i64 0, .int .i64 0] 23)
  have N2 := Blk.new ((w.alloc (.cells #[.int .i64 s, .bool t, .bool k, .int .i64 r, .int .i64 o] 23)).alloc (.cells #[.int .i64 u] 3)) #[.int .i64 0, .bool false, .bool false, .int .i64 0, .int .i64 0] 23
  rw [World.size_alloc] at N1
  rw [World.size_alloc, World.size_alloc] at N2
  have G0 := ((((Gr.refl w).al (.cells #[.int .i64 s, .bool t, .bool k, .int .i64 r, .int .i64 o] 23)).al (.cells #[.int .i64 u] 3)).al (.cells #[.int .i64 0, .bool false, .bool false, .int .i64 0, .int .i64 0] 23))
  have T := Lib.hid (toldO_ok (F := 51) (caps := #[.pointer (some ⟨w.heap.size, 0, none⟩), .pointer (some ⟨w.heap.size + 1, 0, none⟩)]) (w := ((w.alloc (.cells #[.int .i64 s, .bool t, .bool k, .int .i64 r, .int .i64 o] 23)).alloc (.cells #[.int .i64 u] 3)).alloc (.cells #[.int .i64 0, .bool false, .bool false, .int .i64 0, .int .i64 0] 23)) (enters_of Try.func51 (by kernel_rfl) rfl) S t k r o (fun W G => Sleep_cl (N0.gr G) (N1.gr G) hc))
  clear hc N1
  have N0 := Lib.hid N0
  have N2 := Lib.hid N2
  have hq : ovEq S t k r o s t k r o = (decide (S = s)) := by simp [ovEq]
  have HE := fun w => hq ▸ run_own_eql S t k r o s t k r o w
  clear hq
  have hmf : ∀ (fn : Fn) (first cap : Array Value) (w : World), (Instr.makeFunc fn first cap).run Try.prog w = .ok (.func fn first cap) w := fun _ _ _ _ => rfl
  go_enter Try.func23, Try.ntmps23
  go_wp2_with fail
  with_reducible refine T.out.mono ?_
  rintro e w1 ⟨rfl, g1⟩
  have B0 := N0.out.gr g1
  have B2 := N2.out.gr g1
  have G := Lib.hid (G0.trans g1)
  have l0 := B0.lt
  have l2 := B2.lt
  obtain ⟨⟨q0, q1, q2, q3, q4⟩, -⟩ := own_cells B0
  obtain ⟨⟨e0, e1, e2, e3, e4⟩, y0, y1, y2, y3, y4⟩ := own_cells B2
  clear g1 G0 N0 N2 T
  have BF := ((own_st B2 S t k r o).al (.cells #[.int .i64 S, .bool t, .bool k, .int .i64 r, .int .i64 o] 23)).gr ((Gr.refl _).dr)
  have GF := Lib.hid (((own_gr (g := w.heap.size + 1 + 1) G.out (by omega) S t k r o).al (.cells #[.int .i64 S, .bool t, .bool k, .int .i64 r, .int .i64 o] 23)).dr)
  obtain ⟨⟨c0, c1, c2, c3, c4⟩, -⟩ := own_cells BF
  clear BF B0 B2
  go_wp2_with fail
  go_region
  go_wp2_with fail
  exact bodyPost_ret (v := .tuple #[ov S t k r o, .bool (decide (S = s)), .int .i64 0]) (by simp [results, Try.results23, go_sem, c0, c1, c2, c3, c4]) rfl ⟨rfl, GF.out⟩
set_option maxHeartbeats 2000000 in
theorem Sleep_no {y : Int} (hy : (y == 0) = false) (hc : ∀ W, Calls Try.prog 52 #[ov s t k r o, .int .i64 u] W fun e w' => e = .panicked (pan y) ∧ Gr W w') :
    Calls Try.prog 23 #[ov s t k r o, .int .i64 u] w fun e w' => e = .returned (.tuple #[ov 0 false false 0 0, .bool false, .int .i64 y]) ∧ Gr w w' := by
  have N0 := ((Blk.new w #[.int .i64 s, .bool t, .bool k, .int .i64 r, .int .i64 o] 23).al (.cells #[.int .i64 u] 3)).al (.cells #[.int .i64 0, .bool false, .bool false, .int .i64 0, .int .i64 0] 23)
  have N1 := (Blk.new (w.alloc (.cells #[.int .i64 s, .bool t, .bool k, .int .i64 r, .int .i64 o] 23)) #[.int .i64 u] 3).al (.cells #[.int .i64 0, .bool false, .bool false, .int .i64 0, .int .i64 0] 23)
  have N2 := Blk.new ((w.alloc (.cells #[.int .i64 s, .bool t, .bool k, .int .i64 r, .int .i64 o] 23)).alloc (.cells #[.int .i64 u] 3)) #[.int .i64 0, .bool false, .bool false, .int .i64 0, .int .i64 0] 23
  rw [World.size_alloc] at N1
  rw [World.size_alloc, World.size_alloc] at N2
  have G0 := ((((Gr.refl w).al (.cells #[.int .i64 s, .bool t, .bool k, .int .i64 r, .int .i64 o] 23)).al (.cells #[.int .i64 u] 3)).al (.cells #[.int .i64 0, .bool false, .bool false, .int .i64 0, .int .i64 0] 23))
  have T := Lib.hid (toldO_no (F := 51) (caps := #[.pointer (some ⟨w.heap.size, 0, none⟩), .pointer (some ⟨w.heap.size + 1, 0, none⟩)]) (w := ((w.alloc (.cells #[.int .i64 s, .bool t, .bool k, .int .i64 r, .int .i64 o] 23)).alloc (.cells #[.int .i64 u] 3)).alloc (.cells #[.int .i64 0, .bool false, .bool false, .int .i64 0, .int .i64 0] 23)) (enters_of Try.func51 (by kernel_rfl) rfl) y (fun W G => Sleep_up (N0.gr G) (N1.gr G) hc))
  clear hc N1
  have N0 := Lib.hid N0
  have N2 := Lib.hid N2
  have hmf : ∀ (fn : Fn) (first cap : Array Value) (w : World), (Instr.makeFunc fn first cap).run Try.prog w = .ok (.func fn first cap) w := fun _ _ _ _ => rfl
  go_enter Try.func23, Try.ntmps23
  go_wp2_with fail
  with_reducible refine T.out.mono ?_
  rintro e w1 ⟨rfl, g1⟩
  have B0 := N0.out.gr g1
  have B2 := N2.out.gr g1
  have G := Lib.hid (G0.trans g1)
  have l0 := B0.lt
  have l2 := B2.lt
  obtain ⟨⟨q0, q1, q2, q3, q4⟩, -⟩ := own_cells B0
  obtain ⟨⟨e0, e1, e2, e3, e4⟩, y0, y1, y2, y3, y4⟩ := own_cells B2
  clear g1 G0 N0 N2 T
  have BF := ((own_st B2 0 false false 0 0).al (.cells #[.int .i64 0, .bool false, .bool false, .int .i64 0, .int .i64 0] 23)).gr ((Gr.refl _).dr)
  have GF := Lib.hid (((own_gr (g := w.heap.size + 1 + 1) G.out (by omega) 0 false false 0 0).al (.cells #[.int .i64 0, .bool false, .bool false, .int .i64 0, .int .i64 0] 23)).dr)
  obtain ⟨⟨c0, c1, c2, c3, c4⟩, -⟩ := own_cells BF
  clear BF B0 B2
  go_wp2_with fail
  go_region
  go_wp2_with fail
  exact bodyPost_ret (v := .tuple #[ov 0 false false 0 0, .bool false, .int .i64 y]) (by simp [results, Try.results23, go_sem, c0, c1, c2, c3, c4]) rfl ⟨rfl, GF.out⟩
end
end P14
end Go.Proofs.Ytddgihbgdlnlbaa
