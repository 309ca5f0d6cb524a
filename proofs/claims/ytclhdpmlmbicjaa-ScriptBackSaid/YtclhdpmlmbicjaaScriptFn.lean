/-
  Package script: All; the reference's calls; alive, few.
-/
import Derived.Test.YtclhdpmlmbicjaaScriptTime
import Derived.Test.YtclhdpmlmbicjaaScriptAll
import Derived.Deep.RegionHeld3
namespace Go.Proofs.Ytclhdpmlmbicjaa
open Go.ChangeShapes Go.WideShapes Go.ChangeAt Go.RowKit Go.Shelf
set_option linter.unusedVariables false
set_option linter.unusedSimpArgs false
namespace P13

set_option maxHeartbeats 1000000 in
/-- slices.Collect. -/
theorem Collect_is {w : World} {A : Option Addr} {n c lb : Nat} {L : List Int} (hm : IMem w A n L) (hn : n ≤ 100000) (hL : Blk w lb #[.slice A n c] 24) :
    Calls Try.prog 18 #[.func (.func 23) #[] #[.pointer (some ⟨lb, 0, none⟩)]] w fun e w' => ∃ v, e = .returned v ∧ KOwn w' w.heap.size v (L.map rd) ∧ Gr w w' := by
  have CA := Lib.hid (AppendSeq_is hm hn hL)
  clear hm hL
  go_enter Try.func18, Try.ntmps18
  go_wp2_with fail
  with_reducible refine CA.out.mono ?_
  rintro e w1 ⟨v, rfl, hv, hg⟩
  go_wp2_with fail
  go_ret
  exact ⟨v, rfl, hv, hg⟩
set_option maxHeartbeats 1000000 in
/-- All: the picks, in a row of the call's own. -/
theorem All_is {w : World} {A : Option Addr} {n c : Nat} {L : List Int} (hm : IMem w A n L) (hn : n ≤ 100000) :
    Calls Try.prog 7 #[.slice A n c] w fun e w' => (∃ B d, e = .returned (.slice B n d) ∧ n ≤ d ∧ d ≤ 9223372036854775807 ∧ Mem w' B n (L.map rd) ∧ KOwn w' w.heap.size (.slice B n d) (L.map rd)) ∧ Gr w w' := by
  have CC := Lib.hid (Collect_is (c := c) (hm.gr ((Gr.refl w).al (.cells #[.slice A n c] 24))) hn (Blk.new w #[.slice A n c] 24))
  have hlen := hm.1
  clear hm
  go_enter Try.func7, Try.ntmps7
  go_wp2_with fail
  with_reducible refine (picks_is A n c w).mono ?_
  rintro e w1 ⟨rfl, rfl⟩
  go_wp2_with fail
  with_reducible refine CC.out.mono ?_
  rintro e w2 ⟨v, rfl, hv, hg⟩
  obtain ⟨B, d, rfl, h1, h2, h3, h4⟩ := own_mem hv (rd_all L)
  have hl : (L.map rd).length = n := by simp [hlen]
  rw [hl] at h1 h2 hv ⊢
  clear hl
  go_wp2_with fail
  go_ret
  exact ⟨⟨B, d, rfl, h2, h3, h1, KOwn.low hv (by simp)⟩, ((Gr.refl w).al _).trans hg⟩

/-! The reference. -/
set_option maxHeartbeats 1000000 in
theorem rRead_is (v : Int) (w : World) : Calls Try.prog 10 #[.int .i64 v] w fun e w' => e = .returned (pk (rd v)) ∧ Gr w w' := by
  by_cases h : 0 ≤ v
  · rw [rd_step h]
    go_enter Try.func10, Try.ntmps10
    go_wp2_with fail
    exact bodyPost_ret (v := pk (0, v % 16)) (by simp [results, Try.results10, go_sem, Int.tmod_eq_emod_of_nonneg h]) rfl ⟨rfl, (Gr.refl w).al _⟩
  · rw [rd_tick (by omega)]
    by_cases h2 : v < -4611686018427387904
    · rw [show max v (-4611686018427387904) = -4611686018427387904 from by omega]
      go_enter Try.func10, Try.ntmps10
      go_wp2_with fail
      exact bodyPost_ret (v := pk (1, - -4611686018427387904)) (by simp [results, Try.results10, go_sem]) rfl ⟨rfl, (Gr.refl w).al _⟩
    · rw [show max v (-4611686018427387904) = v from by omega]
      go_enter Try.func10, Try.ntmps10
      go_wp2_with fail
      exact bodyPost_ret (v := pk (1, -v)) (by simp [results, Try.results10, go_sem]) rfl ⟨rfl, (Gr.refl w).al _⟩
set_option maxHeartbeats 1000000 in
theorem rRight_is (p : Pk) (v : Bool) (hv : v = true ↔ okP p) (w : World) : Calls Try.prog 12 #[pk p] w fun e w' => e = .returned (.bool v) ∧ Gr w w' := by
  obtain ⟨k, n⟩ := p
  have HV := Lib.hid hv
  clear hv
  by_cases h0 : k = 0
  · subst h0
    go_enter Try.func12, Try.ntmps12
    go_wp2_with fail
    all_goals (
      go_ret
      refine ⟨ret_bool ?_, (Gr.refl w).al _⟩
      rw [HV.out]
      simp [okP]
      omega)
  · by_cases h1 : k = 1
    · subst h1
      go_enter Try.func12, Try.ntmps12
      go_wp2_with fail
      all_goals (
        go_ret
        refine ⟨ret_bool ?_, (Gr.refl w).al _⟩
        rw [HV.out]
        simp [okP]
        omega)
    · have e0 : (k == 0) = false := beq_eq_false_iff_ne.2 h0
      have e1 : (k == 1) = false := beq_eq_false_iff_ne.2 h1
      go_enter Try.func12, Try.ntmps12
      go_wp2_with fail
      go_ret
      refine ⟨ret_bool ?_, (Gr.refl w).al _⟩
      rw [HV.out]
      simp [okP, h0, h1]
set_option maxHeartbeats 1000000 in
theorem rWrite_is {p : Pk} (h : okP p) (w : World) : Calls Try.prog 16 #[pk p] w fun x w' => x = .returned (.int .i64 (nm p)) ∧ Gr w w' := by
  obtain ⟨k, m⟩ := p
  rcases h with ⟨h, h2, h3⟩ | ⟨h, h2, h3⟩
  · obtain rfl : k = 0 := h
    have e : nm (0, m) = m := rfl
    rw [e]
    go_enter Try.func16, Try.ntmps16
    go_wp2_with fail
    go_ret
    exact ⟨rfl, (Gr.refl w).al _⟩
  · obtain rfl : k = 1 := h
    have h2 : 0 < m := h2
    have h3 : m ≤ 4611686018427387904 := h3
    have e : nm (1, m) = -m := rfl
    rw [e]
    go_enter Try.func16, Try.ntmps16
    go_wp2_with fail
    go_ret
    exact ⟨by simp, (Gr.refl w).al _⟩
end P13
end Go.Proofs.Ytclhdpmlmbicjaa
