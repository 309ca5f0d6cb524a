/-
  deadboltref14: what Sleep and Wake answer.
-/
import Derived.Test.YtddgihbgdlnlbaaGrabWoken
namespace Go.Proofs.Ytddgihbgdlnlbaa
open Go.ChangeShapes Go.WideShapes Go.ChangeAt Go.RowKit
set_option linter.unusedVariables false
set_option linter.unusedSimpArgs false

namespace P14
open P3 (fl pw)
open P4 (Tm)

section
variable {s r : Int} {t k a b c : Bool} {n u o x : Int} {w : World}
set_option maxHeartbeats 2000000 in
theorem rSleep_is : Calls Try.prog 26 #[ov s t k r o, .int .i64 u] w fun e w' => e = .returned (.tuple #[ov (snc s u) t k r o, .bool (!decide (s = -1))]) ∧ Gr w w' := by
  by_cases h1 : s = -1
  · have hs : snc s u = u := by simp [snc, h1]
    have hd : (!decide (s = -1)) = false := by simp [h1]
    rw [hs, hd]
    subst h1
    clear hs hd
    go_enter Try.func26, Try.ntmps26
    go_wp2_with fail
    refine bodyPost_ret (v := .tuple #[ov u t k r o, .bool false]) (by simp [results, Try.results26, go_sem]) rfl ⟨rfl, ((Gr.refl w).al _).al _⟩
  · have hs : snc s u = s := by simp [snc, h1]
    have hd : (!decide (s = -1)) = true := by simp [h1]
    have hn : (s != -1) = true := by simp [h1]
    rw [hs, hd]
    clear hs hd h1
    go_enter Try.func26, Try.ntmps26
    go_wp2_with fail
    refine bodyPost_ret (v := .tuple #[ov s t k r o, .bool true]) (by simp [results, Try.results26, go_sem]) rfl ⟨rfl, ((Gr.refl w).al _).al _⟩
set_option maxHeartbeats 4000000 in
theorem rWake_handed (hs : s = -1 ∨ Tm s) (hu : Tm u) (hx : OkN n) {T : Bool} (hT : (t || ltB s u) = T) :
    Calls Try.prog 28 #[ov s t k r o, .int .i64 u, .int .i64 (pw a b true n)] w fun e w' => e = .returned (.tuple #[ov s T k r (pw a b true n), .bool true]) ∧ Gr w w' := by
  have U := fun w => Lib.hid (P3.rUnpack_ok a b true n hx w)
  have HF := fun w => run_starv a b true n w
  generalize pw a b true n = x at *
  have HT := Lib.hid hT
  have hk : (s = -1 ∧ ltB s u = false) ∨ ((s != -1) = true ∧ ∀ w, Hid (Calls Try.prog 55 #[.int .i64 u, .int .i64 s] w fun e w' => e = .returned (.bool (ltB s u)) ∧ w' = w)) := by
    by_cases h1 : s = -1
    · exact .inl ⟨h1, by simp [ltB, h1]⟩
    · refine .inr ⟨by simp [h1], fun w => Lib.hid ?_⟩
      have e : ltB s u = decide (1000000 < P4.gap s u) := by simp [ltB, h1]
      rw [e]
      exact P4.rLate_ok s u (hs.resolve_left h1) hu w
  generalize ltB s u = B at *
  clear hT hs hu hx
  rcases hk with ⟨rfl, rfl⟩ | ⟨hn, K⟩
  · obtain rfl : t = T := by rw [← HT.out]; simp
    clear HT
    have N0 := (Blk.new w #[.int .i64 (-1), .bool t, .bool k, .int .i64 r, .int .i64 x] 23).al (.cells #[.int .i64 0, .bool false, .bool false, .int .i64 0, .int .i64 0] 23)
    have N1 := Blk.new (w.alloc (.cells #[.int .i64 (-1), .bool t, .bool k, .int .i64 r, .int .i64 x] 23)) #[.int .i64 0, .bool false, .bool false, .int .i64 0, .int .i64 0] 23
    rw [World.size_alloc] at N1
    have N0 := Lib.hid N0
    have N1 := Lib.hid N1
    go_enter Try.func28, Try.ntmps28
    go_wp2_with fail
    with_reducible refine (U _).out.mono ?_
    rintro e w1 ⟨rfl, g1⟩
    have M0 := N0.out.gr g1
    have M1 := N1.out.gr g1
    have MG := (((Gr.refl w).al _).al _).trans g1
    obtain ⟨⟨q0, q1, q2, q3, q4⟩, z0, z1, z2, z3, z4⟩ := own_cells M0
    obtain ⟨⟨e0, e1, e2, e3, e4⟩, y0, y1, y2, y3, y4⟩ := own_cells M1
    have BF := own_st M1 (-1) t k r x
    have GF := Lib.hid (own_gr (g := w.heap.size + 1) MG (Nat.le_succ _) (-1) t k r x)
    obtain ⟨⟨c0, c1, c2, c3, c4⟩, -⟩ := own_cells BF
    clear M0 M1 BF MG g1
    go_wp2_with fail
    exact bodyPost_ret (v := .tuple #[ov (-1) t k r x, .bool true]) (by simp [results, Try.results28, go_sem, c0, c1, c2, c3, c4]) rfl ⟨rfl, GF.out⟩
  · cases B
    · obtain rfl : t = T := by rw [← HT.out]; simp
      clear HT
      have N0 := (Blk.new w #[.int .i64 (s), .bool t, .bool k, .int .i64 r, .int .i64 x] 23).al (.cells #[.int .i64 0, .bool false, .bool false, .int .i64 0, .int .i64 0] 23)
      have N1 := Blk.new (w.alloc (.cells #[.int .i64 (s), .bool t, .bool k, .int .i64 r, .int .i64 x] 23)) #[.int .i64 0, .bool false, .bool false, .int .i64 0, .int .i64 0] 23
      rw [World.size_alloc] at N1
      have N0 := Lib.hid N0
      have N1 := Lib.hid N1
      go_enter Try.func28, Try.ntmps28
      go_wp2_with fail
      with_reducible refine (K _).out.mono ?_
      rintro e w0 ⟨rfl, rfl⟩
      go_wp2_with fail
      with_reducible refine (U _).out.mono ?_
      rintro e w1 ⟨rfl, g1⟩
      have M0 := N0.out.gr g1
      have M1 := N1.out.gr g1
      have MG := (((Gr.refl w).al _).al _).trans g1
      obtain ⟨⟨q0, q1, q2, q3, q4⟩, z0, z1, z2, z3, z4⟩ := own_cells M0
      obtain ⟨⟨e0, e1, e2, e3, e4⟩, y0, y1, y2, y3, y4⟩ := own_cells M1
      have BF := own_st M1 (s) t k r x
      have GF := Lib.hid (own_gr (g := w.heap.size + 1) MG (Nat.le_succ _) (s) t k r x)
      obtain ⟨⟨c0, c1, c2, c3, c4⟩, -⟩ := own_cells BF
      clear M0 M1 BF MG g1
      go_wp2_with fail
      exact bodyPost_ret (v := .tuple #[ov (s) t k r x, .bool true]) (by simp [results, Try.results28, go_sem, c0, c1, c2, c3, c4]) rfl ⟨rfl, GF.out⟩
    · obtain rfl : T = true := by rw [← HT.out]; simp
      clear HT
      have N0 := (Blk.new w #[.int .i64 (s), .bool true, .bool k, .int .i64 r, .int .i64 x] 23).al (.cells #[.int .i64 0, .bool false, .bool false, .int .i64 0, .int .i64 0] 23)
      have N1 := Blk.new (w.alloc (.cells #[.int .i64 (s), .bool true, .bool k, .int .i64 r, .int .i64 x] 23)) #[.int .i64 0, .bool false, .bool false, .int .i64 0, .int .i64 0] 23
      rw [World.size_alloc] at N1
      have N0 := Lib.hid N0
      have N1 := Lib.hid N1
      go_enter Try.func28, Try.ntmps28
      go_wp2_with fail
      with_reducible refine (K _).out.mono ?_
      rintro e w0 ⟨rfl, rfl⟩
      go_wp2_with fail
      with_reducible refine (U _).out.mono ?_
      rintro e w1 ⟨rfl, g1⟩
      have M0 := N0.out.gr g1
      have M1 := N1.out.gr g1
      have MG := (((Gr.refl w).al _).al _).trans g1
      obtain ⟨⟨q0, q1, q2, q3, q4⟩, z0, z1, z2, z3, z4⟩ := own_cells M0
      obtain ⟨⟨e0, e1, e2, e3, e4⟩, y0, y1, y2, y3, y4⟩ := own_cells M1
      have BF := own_st M1 (s) true k r x
      have GF := Lib.hid (own_gr (g := w.heap.size + 1) MG (Nat.le_succ _) (s) true k r x)
      obtain ⟨⟨c0, c1, c2, c3, c4⟩, -⟩ := own_cells BF
      clear M0 M1 BF MG g1
      go_wp2_with fail
      exact bodyPost_ret (v := .tuple #[ov (s) true k r x, .bool true]) (by simp [results, Try.results28, go_sem, c0, c1, c2, c3, c4]) rfl ⟨rfl, GF.out⟩
set_option maxHeartbeats 4000000 in
theorem rWake_back (hs : s = -1 ∨ Tm s) (hu : Tm u) (hx : OkN n) {T : Bool} (hT : (t || ltB s u) = T) :
    Calls Try.prog 28 #[ov s t k r o, .int .i64 u, .int .i64 (pw a b false n)] w fun e w' => e = .returned (.tuple #[ov s T true 0 (pw a b false n), .bool false]) ∧ Gr w w' := by
  have U := fun w => Lib.hid (P3.rUnpack_ok a b false n hx w)
  have HF := fun w => run_starv a b false n w
  generalize pw a b false n = x at *
  have HT := Lib.hid hT
  have hk : (s = -1 ∧ ltB s u = false) ∨ ((s != -1) = true ∧ ∀ w, Hid (Calls Try.prog 55 #[.int .i64 u, .int .i64 s] w fun e w' => e = .returned (.bool (ltB s u)) ∧ w' = w)) := by
    by_cases h1 : s = -1
    · exact .inl ⟨h1, by simp [ltB, h1]⟩
    · refine .inr ⟨by simp [h1], fun w => Lib.hid ?_⟩
      have e : ltB s u = decide (1000000 < P4.gap s u) := by simp [ltB, h1]
      rw [e]
      exact P4.rLate_ok s u (hs.resolve_left h1) hu w
  generalize ltB s u = B at *
  clear hT hs hu hx
  rcases hk with ⟨rfl, rfl⟩ | ⟨hn, K⟩
  · obtain rfl : t = T := by rw [← HT.out]; simp
    clear HT
    have N0 := (Blk.new w #[.int .i64 (-1), .bool t, .bool k, .int .i64 r, .int .i64 x] 23).al (.cells #[.int .i64 0, .bool false, .bool false, .int .i64 0, .int .i64 0] 23)
    have N1 := Blk.new (w.alloc (.cells #[.int .i64 (-1), .bool t, .bool k, .int .i64 r, .int .i64 x] 23)) #[.int .i64 0, .bool false, .bool false, .int .i64 0, .int .i64 0] 23
    rw [World.size_alloc] at N1
    have N0 := Lib.hid N0
    have N1 := Lib.hid N1
    go_enter Try.func28, Try.ntmps28
    go_wp2_with fail
    with_reducible refine (U _).out.mono ?_
    rintro e w1 ⟨rfl, g1⟩
    have M0 := N0.out.gr g1
    have M1 := N1.out.gr g1
    have MG := (((Gr.refl w).al _).al _).trans g1
    obtain ⟨⟨q0, q1, q2, q3, q4⟩, z0, z1, z2, z3, z4⟩ := own_cells M0
    obtain ⟨⟨e0, e1, e2, e3, e4⟩, y0, y1, y2, y3, y4⟩ := own_cells M1
    have hne : w.heap.size ≠ w.heap.size + 1 := by omega
    have BF := own_st ((M1.st (p := ⟨w.heap.size, 2, none⟩) hne (.bool true)).st (p := ⟨w.heap.size, 3, none⟩) hne (.int .i64 0)) (-1) t true 0 x
    have GF := Lib.hid (own_gr (g := w.heap.size + 1) ((MG.st (p := ⟨w.heap.size, 2, none⟩) (Nat.le_refl _) (.bool true)).st (p := ⟨w.heap.size, 3, none⟩) (Nat.le_refl _) (.int .i64 0)) (Nat.le_succ _) (-1) t true 0 x)
    obtain ⟨⟨c0, c1, c2, c3, c4⟩, -⟩ := own_cells BF
    clear M0 M1 BF MG g1
    go_wp2_with fail
    exact bodyPost_ret (v := .tuple #[ov (-1) t true 0 x, .bool false]) (by simp [results, Try.results28, go_sem, c0, c1, c2, c3, c4]) rfl ⟨rfl, GF.out⟩
  · cases B
    · obtain rfl : t = T := by rw [← HT.out]; simp
      clear HT
      have N0 := (Blk.new w #[.int .i64 (s), .bool t, .bool k, .int .i64 r, .int .i64 x] 23).al (.cells #[.int .i64 0, .bool false, .bool false, .int .i64 0, .int .i64 0] 23)
      have N1 := Blk.new (w.alloc (.cells #[.int .i64 (s), .bool t, .bool k, .int .i64 r, .int .i64 x] 23)) #[.int .i64 0, .bool false, .bool false, .int .i64 0, .int .i64 0] 23
      rw [World.size_alloc] at N1
      have N0 := Lib.hid N0
      have N1 := Lib.hid N1
      go_enter Try.func28, Try.ntmps28
      go_wp2_with fail
      with_reducible refine (K _).out.mono ?_
      rintro e w0 ⟨rfl, rfl⟩
      go_wp2_with fail
      with_reducible refine (U _).out.mono ?_
      rintro e w1 ⟨rfl, g1⟩
      have M0 := N0.out.gr g1
      have M1 := N1.out.gr g1
      have MG := (((Gr.refl w).al _).al _).trans g1
      obtain ⟨⟨q0, q1, q2, q3, q4⟩, z0, z1, z2, z3, z4⟩ := own_cells M0
      obtain ⟨⟨e0, e1, e2, e3, e4⟩, y0, y1, y2, y3, y4⟩ := own_cells M1
      have hne : w.heap.size ≠ w.heap.size + 1 := by omega
      have BF := own_st ((M1.st (p := ⟨w.heap.size, 2, none⟩) hne (.bool true)).st (p := ⟨w.heap.size, 3, none⟩) hne (.int .i64 0)) (s) t true 0 x
      have GF := Lib.hid (own_gr (g := w.heap.size + 1) ((MG.st (p := ⟨w.heap.size, 2, none⟩) (Nat.le_refl _) (.bool true)).st (p := ⟨w.heap.size, 3, none⟩) (Nat.le_refl _) (.int .i64 0)) (Nat.le_succ _) (s) t true 0 x)
      obtain ⟨⟨c0, c1, c2, c3, c4⟩, -⟩ := own_cells BF
      clear M0 M1 BF MG g1
      go_wp2_with fail
      exact bodyPost_ret (v := .tuple #[ov (s) t true 0 x, .bool false]) (by simp [results, Try.results28, go_sem, c0, c1, c2, c3, c4]) rfl ⟨rfl, GF.out⟩
    · obtain rfl : T = true := by rw [← HT.out]; simp
      clear HT
      have N0 := (Blk.new w #[.int .i64 (s), .bool true, .bool k, .int .i64 r, .int .i64 x] 23).al (.cells #[.int .i64 0, .bool false, .bool false, .int .i64 0, .int .i64 0] 23)
      have N1 := Blk.new (w.alloc (.cells #[.int .i64 (s), .bool true, .bool k, .int .i64 r, .int .i64 x] 23)) #[.int .i64 0, .bool false, .bool false, .int .i64 0, .int .i64 0] 23
      rw [World.size_alloc] at N1
      have N0 := Lib.hid N0
      have N1 := Lib.hid N1
      go_enter Try.func28, Try.ntmps28
      go_wp2_with fail
      with_reducible refine (K _).out.mono ?_
      rintro e w0 ⟨rfl, rfl⟩
      go_wp2_with fail
      with_reducible refine (U _).out.mono ?_
      rintro e w1 ⟨rfl, g1⟩
      have M0 := N0.out.gr g1
      have M1 := N1.out.gr g1
      have MG := (((Gr.refl w).al _).al _).trans g1
      obtain ⟨⟨q0, q1, q2, q3, q4⟩, z0, z1, z2, z3, z4⟩ := own_cells M0
      obtain ⟨⟨e0, e1, e2, e3, e4⟩, y0, y1, y2, y3, y4⟩ := own_cells M1
      have hne : w.heap.size ≠ w.heap.size + 1 := by omega
      have BF := own_st ((M1.st (p := ⟨w.heap.size, 2, none⟩) hne (.bool true)).st (p := ⟨w.heap.size, 3, none⟩) hne (.int .i64 0)) (s) true true 0 x
      have GF := Lib.hid (own_gr (g := w.heap.size + 1) ((MG.st (p := ⟨w.heap.size, 2, none⟩) (Nat.le_refl _) (.bool true)).st (p := ⟨w.heap.size, 3, none⟩) (Nat.le_refl _) (.int .i64 0)) (Nat.le_succ _) (s) true true 0 x)
      obtain ⟨⟨c0, c1, c2, c3, c4⟩, -⟩ := own_cells BF
      clear M0 M1 BF MG g1
      go_wp2_with fail
      exact bodyPost_ret (v := .tuple #[ov (s) true true 0 x, .bool false]) (by simp [results, Try.results28, go_sem, c0, c1, c2, c3, c4]) rfl ⟨rfl, GF.out⟩
end
end P14
end Go.Proofs.Ytddgihbgdlnlbaa
