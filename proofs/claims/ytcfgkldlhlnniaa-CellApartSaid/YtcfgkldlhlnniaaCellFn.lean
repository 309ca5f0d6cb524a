/-
  Package cell: Load, and what an access does with its cell.
-/
import Derived.Test.YtcfgkldlhlnniaaCell
import Derived.Deep.RegionHeld3
import Derived.RegionTactic
namespace Go.Proofs.Ytcfgkldlhlnniaa
open Go.ChangeShapes Go.WideShapes Go.ChangeAt Go.RowKit
set_option linter.unusedVariables false

/-- find answers the cell (p, q) and the error e. -/
def FindIs (A : Option Addr) (n c : Nat) (l : List (Int × Int)) (i p q e : Int) : Prop :=
  ∀ w, Mem w A n l → Calls Try.prog 20 #[.slice A n c, .int .i64 i] w fun ee w' => ee = .returned (.tuple #[.agg #[.int .i64 p, .int .i64 q], .int .i64 e]) ∧ Gr w w'

set_option maxHeartbeats 400000 in
theorem Load_of {A : Option Addr} {n c : Nat} {l : List (Int × Int)} {i p q e : Int} (hF : FindIs A n c l i p q e) (w : World) (hm : Mem w A n l) :
    Calls Try.prog 7 #[.slice A n c, .int .i64 i] w fun ee w' => ee = .returned (.tuple #[.int .i64 q, .int .i64 e]) ∧ Gr w w' := by
  go_enter Try.func7, Try.ntmps7
  go_wp2_with fail
  refine (hF _ hm).mono ?_
  rintro ee w1 ⟨rfl, hb1⟩
  go_wp2_with fail
  go_ret2
  exact ⟨rfl, hb1.al _⟩

theorem fit_kind {k v : Int} (h : fitB k v = true) : 0 ≤ k ∧ k ≤ 2 := by
  simp only [fitB, Bool.and_eq_true, decide_eq_true_eq] at h
  exact h.1
theorem fit_is {k v : Int} (h : fitB k v = true) : wd k v = v := by
  simp only [fitB, Bool.and_eq_true, decide_eq_true_eq] at h
  simpa using h.2

set_option maxHeartbeats 400000 in
theorem as_ok (k x v : Int) (w : World) (hk : 0 ≤ k ∧ k ≤ 2) (hv : Inb v) :
    Calls Try.prog 25 #[.agg #[.int .i64 k, .int .i64 x], .int .i64 v] w fun e w' => e = .returned (.int .i64 (wd k v)) ∧ Gr w w' := by
  go_enter Try.func25, Try.ntmps25
  go_wp2_with fail
  refine (Wrap_ok k v _ hk hv).mono ?_
  rintro ee w1 ⟨rfl, hb1⟩
  go_wp2_with fail
  go_ret
  exact ⟨rfl, ((Gr.refl w).al _).trans hb1⟩

set_option maxHeartbeats 400000 in
theorem addFn_ok (k x d : Int) (g : Nat) (w : World) (hk : 0 ≤ k ∧ k ≤ 2) (hg : g < w.heap.size) (hc : w.cell? ⟨g, 0, none⟩ = some (.int .i64 d)) :
    Calls Try.prog 22 #[.agg #[.int .i64 k, .int .i64 x], .pointer (some ⟨g, 0, none⟩)] w fun e w' => e = .returned (.tuple #[.int .i64 (wd k (wrap64 (x + d))), .int .i64 (wd k (wrap64 (x + d)))]) ∧ Gr w w' := by
  have hne : g ≠ w.heap.size := by omega
  go_enter Try.func22, Try.ntmps22
  go_wp2_with fail
  refine (Add_ok k x d _ hk).mono ?_
  rintro ee w1 ⟨rfl, hb1⟩
  go_wp2_with fail
  go_ret2
  exact ⟨rfl, ((Gr.refl w).al _).trans hb1⟩

set_option maxHeartbeats 1000000 in
theorem swapFn_ok (k x v : Int) (g : Nat) (w : World) (hk : 0 ≤ k ∧ k ≤ 2) (hv : Inb v) (hg : g < w.heap.size) (hc : w.cell? ⟨g, 0, none⟩ = some (.int .i64 v)) :
    Calls Try.prog 24 #[.agg #[.int .i64 k, .int .i64 x], .pointer (some ⟨g, 0, none⟩)] w fun e w' => e = .returned (.tuple #[.int .i64 (wd k v), .int .i64 x]) ∧ Gr w w' := by
  have hne : g ≠ w.heap.size := by omega
  go_enter Try.func24, Try.ntmps24
  go_wp2_with fail
  go_region_held3 (fun w' => w'.cell? ⟨w.heap.size, 0, none⟩ = some (.int .i64 k) ∧ w'.cell? ⟨w.heap.size, 1, none⟩ = some (.int .i64 x) ∧ w'.cell? ⟨g, 0, none⟩ = some (.int .i64 v) ∧ Gr w w' ∧ w.heap.size < w'.heap.size) (first | exact ⟨by simp, by simp, (World.cell?_alloc_lt w _ ⟨g, 0, none⟩ hg).trans hc, ((Gr.refl w).al _).dr, by simp⟩ | (go_split_ands; exact ⟨(hb1.cell (p := ⟨w.heap.size, 0, none⟩) (by assumption)).trans (by assumption), (hb1.cell (p := ⟨w.heap.size, 1, none⟩) (by assumption)).trans (by assumption), (hb1.cell (p := ⟨g, 0, none⟩) (by simp; omega)).trans (by assumption), Gr.trans (by assumption) hb1, Nat.lt_of_lt_of_le (by assumption) hb1.size⟩))
    (first | (go_at_call 25; refine (as_ok k x v _ hk hv).mono ?_; rintro ee w1 ⟨rfl, hb1⟩))
  go_wp2
  go_ret2
  exact ⟨rfl, (((Gr.refl w).al _).dr).trans hb1⟩
set_option maxHeartbeats 1000000 in
theorem casFn_hit (k x old v : Int) (g h : Nat) (w : World) (hk : 0 ≤ k ∧ k ≤ 2) (ho : Inb old) (hv : Inb v) (hg : g < w.heap.size) (hh : h < w.heap.size) (hc : w.cell? ⟨g, 0, none⟩ = some (.int .i64 old)) (hd : w.cell? ⟨h, 0, none⟩ = some (.int .i64 v)) (hx : wd k old = x) :
    Calls Try.prog 27 #[.agg #[.int .i64 k, .int .i64 x], .pointer (some ⟨g, 0, none⟩), .pointer (some ⟨h, 0, none⟩)] w fun e w' => e = .returned (.tuple #[.int .i64 (wd k v), .bool true]) ∧ Gr w w' := by
  have hne : g ≠ w.heap.size := by omega
  have hnh : h ≠ w.heap.size := by omega
  have cc := fun w => Lib.hid (show Calls Try.prog 25 #[.agg #[.int .i64 k, .int .i64 x], .int .i64 old] w fun e w' => e = .returned (.int .i64 x) ∧ Gr w w' from by have := as_ok k x old w hk ho; rwa [hx] at this)
  clear hx
  go_enter Try.func27, Try.ntmps27
  go_wp2_with fail
  go_region_held3 (fun w' => w'.cell? ⟨w.heap.size, 0, none⟩ = some (.int .i64 k) ∧ w'.cell? ⟨w.heap.size, 1, none⟩ = some (.int .i64 x) ∧ w'.cell? ⟨g, 0, none⟩ = some (.int .i64 old) ∧ w'.cell? ⟨h, 0, none⟩ = some (.int .i64 v) ∧ Gr w w' ∧ w.heap.size < w'.heap.size) (first | exact ⟨by simp, by simp, (World.cell?_alloc_lt w _ ⟨g, 0, none⟩ hg).trans hc, (World.cell?_alloc_lt w _ ⟨h, 0, none⟩ hh).trans hd, ((Gr.refl w).al _).dr, by simp⟩ | (go_split_ands; exact ⟨(hb1.cell (p := ⟨w.heap.size, 0, none⟩) (by assumption)).trans (by assumption), (hb1.cell (p := ⟨w.heap.size, 1, none⟩) (by assumption)).trans (by assumption), (hb1.cell (p := ⟨g, 0, none⟩) (by simp; omega)).trans (by assumption), (hb1.cell (p := ⟨h, 0, none⟩) (by simp; omega)).trans (by assumption), Gr.trans (by assumption) hb1, Nat.lt_of_lt_of_le (by assumption) hb1.size⟩))
    (first | (go_at_call 25; refine (cc _).out.mono ?_; rintro ee w1 ⟨rfl, hb1⟩))
  rename_i hH
  obtain ⟨q0, q1, q2, q3, q4, q5⟩ := hH
  go_wp2_with fail
  refine (as_ok k x v _ hk hv).mono ?_
  rintro ee w2 ⟨rfl, hb2⟩
  go_wp2_with fail
  go_ret2
  exact ⟨rfl, q4.trans hb2⟩
set_option maxHeartbeats 1000000 in
theorem casFn_miss (k x old v : Int) (g h : Nat) (w : World) (hk : 0 ≤ k ∧ k ≤ 2) (ho : Inb old) (hv : Inb v) (hg : g < w.heap.size) (hh : h < w.heap.size) (hc : w.cell? ⟨g, 0, none⟩ = some (.int .i64 old)) (hd : w.cell? ⟨h, 0, none⟩ = some (.int .i64 v)) (hx : wd k old ≠ x) :
    Calls Try.prog 27 #[.agg #[.int .i64 k, .int .i64 x], .pointer (some ⟨g, 0, none⟩), .pointer (some ⟨h, 0, none⟩)] w fun e w' => e = .returned (.tuple #[.int .i64 x, .bool false]) ∧ Gr w w' := by
  have hne : g ≠ w.heap.size := by omega
  have hnh : h ≠ w.heap.size := by omega
  have cc := fun w => Lib.hid (as_ok k x old w hk ho)
  have hz : (x == wd k old) = false := beq_eq_false_iff_ne.2 (Ne.symm hx)
  have hz' : (x != wd k old) = true := by simp [bne, hz]
  generalize wd k old = O at *
  clear hx
  go_enter Try.func27, Try.ntmps27
  go_wp2_with fail
  go_region_held3 (fun w' => w'.cell? ⟨w.heap.size, 0, none⟩ = some (.int .i64 k) ∧ w'.cell? ⟨w.heap.size, 1, none⟩ = some (.int .i64 x) ∧ w'.cell? ⟨g, 0, none⟩ = some (.int .i64 old) ∧ w'.cell? ⟨h, 0, none⟩ = some (.int .i64 v) ∧ Gr w w' ∧ w.heap.size < w'.heap.size) (first | exact ⟨by simp, by simp, (World.cell?_alloc_lt w _ ⟨g, 0, none⟩ hg).trans hc, (World.cell?_alloc_lt w _ ⟨h, 0, none⟩ hh).trans hd, ((Gr.refl w).al _).dr, by simp⟩ | (go_split_ands; exact ⟨(hb1.cell (p := ⟨w.heap.size, 0, none⟩) (by assumption)).trans (by assumption), (hb1.cell (p := ⟨w.heap.size, 1, none⟩) (by assumption)).trans (by assumption), (hb1.cell (p := ⟨g, 0, none⟩) (by simp; omega)).trans (by assumption), (hb1.cell (p := ⟨h, 0, none⟩) (by simp; omega)).trans (by assumption), Gr.trans (by assumption) hb1, Nat.lt_of_lt_of_le (by assumption) hb1.size⟩))
    (first | (go_at_call 25; refine (cc _).out.mono ?_; rintro ee w1 ⟨rfl, hb1⟩))
  rename_i hH
  obtain ⟨q0, q1, q2, q3, q4, q5⟩ := hH
  go_wp2_with fail
  go_ret2
  exact ⟨rfl, q4⟩
end Go.Proofs.Ytcfgkldlhlnniaa
