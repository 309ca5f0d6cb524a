/-
  Package treap: Right, its answer.
-/
import Derived.Test.YtmkkeknimpjfoaaTreapRight
namespace Go.Proofs.Ytmkkeknimpjfoaa
open Go.ChangeShapes Go.WideShapes Go.ChangeAt Go.RowKit
set_option linter.unusedVariables false

theorem run_store_fn (a : Addr) (fn : Fn) (x y : Array Value) (m : Mode) (w : World) : (store a (.func fn x y) m).run Try.prog w = stored Try.prog w a (.func fn x y) m := run_store Try.prog w a _ m rfl
set_option maxHeartbeats 2000000 in
theorem Right_is {w : World} {r : Int} {A : Option Addr} {n c : Nat} {l : List Nd} (hm : NMem w A n l) {v : Bool} (hv : v = true ↔ ∃ t, Good l r t) :
    Calls Try.prog 57 #[.agg #[.int .i64 r, .slice A n c]] w fun e w' => e = .returned (.bool v) ∧ Gr w w' := by
  have hlen := hm.1
  by_cases hn : n ≤ 64
  · obtain ⟨b, q, hs, hq, hg⟩ := right_ex (r := r) (show l.length ≤ 64 from by omega)
    have hvb : v = (b && decide (q = n)) := by
      have h : v = true ↔ (b && decide (q = n)) = true := by rw [hv, ← hg, hlen, Bool.and_eq_true, decide_eq_true_eq]
      exact Bool.eq_iff_iff.2 h
    clear hv hg
    have h1 : ¬ (64 : Int) < (n : Int) := by omega
    have hS : ∀ W, RW w r A n c 0 W → Calls Try.prog 62 #[.int .i64 r, .int .i64 (-1), .int .i64 4294967296, .int .i64 4294967296, .pointer (some ⟨w.heap.size, 0, none⟩), .pointer (some ⟨w.heap.size + 1, 0, none⟩), .pointer (some ⟨w.heap.size + 1 + 1, 0, none⟩)] W
      fun e w' => e = .returned (.bool b) ∧ RW w r A n c (0 + q) w' := fun W hR => sound_is hm hn hs W 0 hR (by omega) (by omega) (by omega) (by omega) (c := c)
    have stf := run_store_fn
    have KS := Lib.hid hS
    clear hS hs
    go_enter Try.func57, Try.ntmps57
    go_wp2_with fail
    with_reducible refine (KS.out _ ?_).mono ?_
    · refine ⟨(((Gr.refl w).al _).al _).al _, ((Blk.new w _ _).al _).al _, ?_, ?_⟩
      · simpa [SF] using (Blk.new (w.alloc (.cells #[.int .i64 r, .slice A n c] 84)) #[.int .i64 0] 3).al (.cells #[SF w.heap.size] 100)
      · simpa [SF] using Blk.new ((w.alloc (.cells #[.int .i64 r, .slice A n c] 84)).alloc (.cells #[.int .i64 0] 3)) #[SF w.heap.size] 100
    rintro e w2 ⟨rfl, hR⟩
    rw [Int.zero_add] at hR
    have f0 := (hR.b0.at_ (k := 1) rfl).1
    have f1 := (hR.b1.at_ (k := 0) rfl).1
    have HG := Lib.hid hR.gr
    clear hR KS stf hq
    cases b with
    | false =>
      have hv2 : v = false := hvb
      clear hvb
      subst hv2
      go_wp2_with fail
      go_ret
      exact ⟨rfl, HG.out⟩
    | true =>
      by_cases hqn : q = n
      · subst hqn
        have hv2 : v = true := by rw [hvb, decide_eq_true rfl]; rfl
        clear hvb
        subst hv2
        go_wp2_with fail
        go_ret
        exact ⟨rfl, HG.out⟩
      · have ne : ((q : Int) == (n : Int)) = false := beq_eq_false_iff_ne.2 (by omega)
        have hv2 : v = false := by rw [hvb, decide_eq_false hqn]; rfl
        clear hvb hqn
        subst hv2
        go_wp2_with fail
        go_ret
        exact ⟨rfl, HG.out⟩
  · obtain rfl : v = false := by
      cases v
      · rfl
      · obtain ⟨t, ht⟩ := hv.1 rfl
        have := ht.2.2.1; omega
    have h1 : (64 : Int) < (n : Int) := by omega
    clear hv
    go_enter Try.func57, Try.ntmps57
    go_wp2_with fail
    go_ret
    exact ⟨rfl, (Gr.refl _).al _⟩
end Go.Proofs.Ytmkkeknimpjfoaa
