/-
  What the laws of cell share: few, alive, Same.
-/
import Derived.Test.YtcfgkldlhlnniaaCellOps
import Derived.Laws.StructEq
namespace Go.Proofs.Ytcfgkldlhlnniaa
open Go.ChangeShapes Go.WideShapes Go.ChangeAt Go.RowKit
set_option linter.unusedVariables false

set_option maxHeartbeats 1000000 in
theorem Same_true (A B : Option Addr) (n c d : Nat) (l : List (Int × Int)) (w : World) (hn : n ≤ 9223372036854775807) (hm : Mem w A n l) (hk : Mem w B n l) :
    Calls Try.prog 19 #[.slice A n c, .slice B n d] w fun e w' => e = .returned (.bool true) ∧ Gr w w' := by
  go_enter Try.func19, Try.ntmps19
  go_wp2_with fail
  go_loopw [13] (fun i wr => ∃ k : Nat, k ≤ n ∧ i = .int .i64 k ∧ Gr w wr) (fun i _ => n - (intOf i).toNat)
  case atStart => exact ⟨0, Nat.zero_le _, rfl, Gr.refl _⟩
  case round =>
    obtain ⟨k, hkn, rfl, hg⟩ := hrel
    by_cases hlt : k < n
    · obtain ⟨b, off, x, rfl, hbl, hx, h1, h2, c0, c1⟩ := (hm.gr hg).at_ hlt
      obtain ⟨b', off', x', rfl, hbl', hx', h1', h2', c0', c1'⟩ := (hk.gr hg).at_ hlt
      obtain rfl : x = x' := by rw [hx] at hx'; exact Option.some.inj hx'
      clear hx hx' hm hk
      have k0 : (0 : Int) ≤ (k : Int) := by omega
      have k1 : (k : Int) < (n : Int) := by omega
      obtain ⟨x1, x2⟩ := x
      go_wp2_with fail
      go_quiet (fail)
      go_wp2_with fail
      go_roundw
      case rel => exact ⟨k + 1, by omega, by go_num, hg.drN _⟩
      case measure => simp [intOf]; omega
    · obtain rfl : k = n := by omega
      go_wp2_with fail
      go_ret
      exact ⟨rfl, hg⟩

set_option maxHeartbeats 400000 in
theorem few_ok (A : Option Addr) (n c : Nat) (w : World) (hn : n ≤ 9223372036854775807) (hc : n ≤ c) :
    Calls Try.prog 6 #[.slice A n c] w fun e w' => e = .returned (.slice A (min n 70) c) ∧ Gr w w' := by
  by_cases h : n ≤ 70
  · have hm : min n 70 = n := by omega
    rw [hm]
    clear hm
    go_enter Try.func6, Try.ntmps6
    go_wp2_with fail
    go_ret
    exact ⟨rfl, Gr.refl _⟩
  · have hm : min n 70 = 70 := by omega
    rw [hm]
    clear hm
    have h70 : 70 ≤ c := by omega
    go_enter Try.func6, Try.ntmps6
    go_wp2_with fail
    go_ret
    exact ⟨rfl, Gr.refl _⟩
set_option maxHeartbeats 400000 in
theorem alive2_ok (w : World) : Calls Try.prog 14 #[] w fun e w' => e = .returned (.bool true) ∧ Gr w w' := by
  have hm : Mem (w.alloc (.cells #[.int .i64 0, .int .i64 (-1)] 42)) (some ⟨w.heap.size, 0, none⟩) 1 [(0, -1)] :=
    ⟨rfl, by simp [Inb], fun _ => ⟨w.heap.size, 0, rfl, by simp, fun j u hu => by
      match j, hu with
      | 0, hu => simp [flat] at hu; subst hu; simp
      | 1, hu => simp [flat] at hu; subst hu; simp
      | j + 2, hu => simp [flat] at hu⟩⟩
  have cc : Calls Try.prog 11 #[.slice (some ⟨w.heap.size, 0, none⟩) 1 1, .int .i64 0, .int .i64 4294967295, .int .i64 5] (w.alloc (.cells #[.int .i64 0, .int .i64 (-1)] 42)) (GotMem (w.alloc (.cells #[.int .i64 0, .int .i64 (-1)] 42)) 1 [(0, 5)] (.bool true)) := by
    have h := Cas_hit (c := 1) (i := 0) (x := (0, -1)) (old := 4294967295) (v := 5) (by decide +kernel) rfl (by simp [Inb]) (by simp [Inb]) hm (by decide +kernel)
    rwa [show ([((0 : Int), (-1 : Int))]).set 0 (((0 : Int), (-1 : Int)).1, wd ((0 : Int), (-1 : Int)).1 5) = [(0, 5)] from by decide +kernel] at h
  have CC := Lib.hid cc
  clear cc hm
  go_enter Try.func14, Try.ntmps14
  go_wp2_with fail
  refine CC.out.mono ?_
  rintro e w1 ⟨g, rfl, hm1, hb1⟩
  obtain ⟨b, off, hA, _, hc⟩ := hm1.2.2 (by omega)
  have hc5 := hc 1 _ rfl
  simp only [Option.some.injEq, Addr.mk.injEq, and_true] at hA
  obtain ⟨rfl, rfl⟩ := hA
  have hc6 : w1.cell? ⟨g, 1, none⟩ = some (.int .i64 5) := hc5
  clear hc5 hc hm1
  go_wp2_with fail
  go_ret
  exact ⟨rfl, ((Gr.refl w).al _).trans hb1⟩
end Go.Proofs.Ytcfgkldlhlnniaa
