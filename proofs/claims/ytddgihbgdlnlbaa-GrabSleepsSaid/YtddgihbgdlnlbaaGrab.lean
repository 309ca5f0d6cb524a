/-
  Package grab: who gives up (need, sure), and what that comes to (told).
-/
import Derived.Test.YtddgihbgdlnlbaaBlk
import Derived.WalkLawsBesides
import Derived.Defers
import Derived.Recover
import Derived.Shelf.Abstract
import Derived.Laws.Pointers
namespace Go.Proofs.Ytddgihbgdlnlbaa
open Go.ChangeShapes Go.WideShapes Go.ChangeAt Go.RowKit Go.Shelf
set_option linter.unusedVariables false
set_option linter.unusedSimpArgs false

namespace P14

/-- Why somebody gives up. -/
abbrev pan (y : Int) : List PanicEntry := [{ v := .iface 24 (.int .i64 y), recovered := false }]
/-- How a call ends: with a value, or (y is no 0) by giving up. -/
def Ans (y : Int) (v : Value) (w : World) (e : Ending) (w' : World) : Prop := Gr w w' ∧ ((y = 0 ∧ e = .returned v) ∨ (y ≠ 0 ∧ e = .panicked (pan y)))

set_option maxHeartbeats 400000 in
theorem need_yes (y : Int) (w : World) : Calls Try.prog 59 #[.bool true, .int .i64 y] w fun e w' => e = .returned (.tuple #[]) ∧ w' = w := by
  go_enter Try.func59, Try.ntmps59
  go_wp2
  go_end0
  exact ⟨rfl, rfl⟩
set_option maxHeartbeats 400000 in
theorem need_no (y : Int) (w : World) : Calls Try.prog 59 #[.bool false, .int .i64 y] w fun e w' => e = .panicked (pan y) ∧ w' = w := by
  go_enter Try.func59, Try.ntmps59
  go_wp2
  exact ⟨rfl, rfl, rfl⟩
set_option maxHeartbeats 400000 in
theorem sureB_yes (v : Bool) (w : World) : Calls Try.prog 34 #[.bool v, .int .i64 0] w fun e w' => e = .returned (.bool v) ∧ w' = w := by
  go_enter Try.func34, Try.ntmps34
  go_wp2_with fail
  with_reducible refine (need_yes _ _).mono ?_
  rintro e w1 ⟨rfl, rfl⟩
  go_wp2_with fail
  go_ret
  exact ⟨rfl, rfl⟩
set_option maxHeartbeats 400000 in
theorem sureB_no (v : Bool) {y : Int} (hy : (y == 0) = false) (w : World) : Calls Try.prog 34 #[.bool v, .int .i64 y] w fun e w' => e = .panicked (pan y) ∧ w' = w := by
  go_enter Try.func34, Try.ntmps34
  go_wp2_with fail
  with_reducible refine (need_no _ _).mono ?_
  rintro e w1 ⟨rfl, rfl⟩
  go_wp2_with fail
  exact ⟨rfl, rfl, rfl⟩
set_option maxHeartbeats 400000 in
theorem sureI_yes (v : Int) (w : World) : Calls Try.prog 63 #[.int .i64 v, .int .i64 0] w fun e w' => e = .returned (.int .i64 v) ∧ w' = w := by
  go_enter Try.func63, Try.ntmps63
  go_wp2_with fail
  with_reducible refine (need_yes _ _).mono ?_
  rintro e w1 ⟨rfl, rfl⟩
  go_wp2_with fail
  go_ret
  exact ⟨rfl, rfl⟩
set_option maxHeartbeats 400000 in
theorem sureI_no (v : Int) {y : Int} (hy : (y == 0) = false) (w : World) : Calls Try.prog 63 #[.int .i64 v, .int .i64 y] w fun e w' => e = .panicked (pan y) ∧ w' = w := by
  go_enter Try.func63, Try.ntmps63
  go_wp2_with fail
  with_reducible refine (need_no _ _).mono ?_
  rintro e w1 ⟨rfl, rfl⟩
  go_wp2_with fail
  exact ⟨rfl, rfl, rfl⟩
set_option maxHeartbeats 1000000 in
theorem sureF_yes (a b c : Bool) (n : Int) (w : World) : Calls Try.prog 61 #[.agg #[.bool a, .bool b, .bool c, .int .i64 n], .int .i64 0] w fun e w' => e = .returned (.agg #[.bool a, .bool b, .bool c, .int .i64 n]) ∧ Gr w w' := by
  go_enter Try.func61, Try.ntmps61
  go_wp2_with fail
  with_reducible refine (need_yes _ _).mono ?_
  rintro e w1 ⟨rfl, rfl⟩
  go_wp2_with fail
  exact bodyPost_ret (v := .agg #[.bool a, .bool b, .bool c, .int .i64 n]) (by simp [results, Try.results61, go_sem]) rfl ⟨rfl, by first | exact ((Gr.refl w).al _).al _ | skip⟩
set_option maxHeartbeats 1000000 in
theorem sureF_no (a b c : Bool) (n : Int) {y : Int} (hy : (y == 0) = false) (w : World) : Calls Try.prog 61 #[.agg #[.bool a, .bool b, .bool c, .int .i64 n], .int .i64 y] w fun e w' => e = .panicked (pan y) ∧ Gr w w' := by
  go_enter Try.func61, Try.ntmps61
  go_wp2_with fail
  with_reducible refine (need_no _ _).mono ?_
  rintro e w1 ⟨rfl, rfl⟩
  go_wp2_with fail
  exact ⟨rfl, rfl, ((Gr.refl w).al _).al _⟩

theorem as_errno (v : Value) (w : World) : (Instr.typeAssert (.iface 24 v) 20 24 false).run Try.prog w = .ok v w := by kernel_rfl

set_option maxHeartbeats 1000000 in
theorem catchB_up (p : Addr) (y x : Int) (w : World) (hc : w.cell? p = some (.int .i64 x)) (hz : w.frozen? p = false) :
    CallsD Try.prog 58 #[.pointer (some p)] (.panicking (pan y)) w fun e u' w' =>
      e = .returned (.tuple #[]) ∧ u' = .panicking [{ v := .iface 24 (.int .i64 y), recovered := true }] ∧ w' = w.setCell p (.int .i64 y) := by
  refine callsD_of_wpS Try.func58 rfl fun c₀ cs hu => ?_
  apply wpS_seq
  apply wpS_region
  simp [wpOpsS, go_sem, recoverD, hu, Try.ntmps58, Exit.thenS]
  apply wpS_seq
  apply wpS_region
  simp [wpOpsS, go_sem, recoverD, hu, Exit.thenS]
  refine wpS_cond (t := true) (by simp [Act.eval, Array.replicate]) ?_
  simp only [if_true]
  apply wpS_region
  simp [wpOpsS, go_sem, as_errno, hc, hz, bodyPostS, results, Try.results58]
set_option maxHeartbeats 1000000 in
theorem catchB_idle (p : Addr) (w : World) :
    CallsD Try.prog 58 #[.pointer (some p)] .returning w fun e u' w' => e = .returned (.tuple #[]) ∧ u' = .returning ∧ w' = w := by
  refine callsD_of_wpS Try.func58 rfl fun c₀ cs hu => ?_
  apply wpS_seq
  apply wpS_region
  simp [wpOpsS, go_sem, recoverD, hu, Try.ntmps58, Exit.thenS]
  apply wpS_seq
  apply wpS_region
  simp [wpOpsS, go_sem, recoverD, hu, Exit.thenS]
  refine wpS_cond (t := false) (by simp [Act.eval, Array.replicate]) ?_
  simp only [Bool.false_eq_true, if_false]
  refine wpS_of_wp (wp_skip ?_)
  cases c₀
  simp_all [bodyPostS, results, Try.results58]

set_option maxHeartbeats 1000000 in
theorem catchI_up (p : Addr) (y x : Int) (w : World) (hc : w.cell? p = some (.int .i64 x)) (hz : w.frozen? p = false) :
    CallsD Try.prog 62 #[.pointer (some p)] (.panicking (pan y)) w fun e u' w' =>
      e = .returned (.tuple #[]) ∧ u' = .panicking [{ v := .iface 24 (.int .i64 y), recovered := true }] ∧ w' = w.setCell p (.int .i64 y) := by
  refine callsD_of_wpS Try.func62 rfl fun c₀ cs hu => ?_
  apply wpS_seq
  apply wpS_region
  simp [wpOpsS, go_sem, recoverD, hu, Try.ntmps62, Exit.thenS]
  apply wpS_seq
  apply wpS_region
  simp [wpOpsS, go_sem, recoverD, hu, Exit.thenS]
  refine wpS_cond (t := true) (by simp [Act.eval, Array.replicate]) ?_
  simp only [if_true]
  apply wpS_region
  simp [wpOpsS, go_sem, as_errno, hc, hz, bodyPostS, results, Try.results62]
set_option maxHeartbeats 1000000 in
theorem catchI_idle (p : Addr) (w : World) :
    CallsD Try.prog 62 #[.pointer (some p)] .returning w fun e u' w' => e = .returned (.tuple #[]) ∧ u' = .returning ∧ w' = w := by
  refine callsD_of_wpS Try.func62 rfl fun c₀ cs hu => ?_
  apply wpS_seq
  apply wpS_region
  simp [wpOpsS, go_sem, recoverD, hu, Try.ntmps62, Exit.thenS]
  apply wpS_seq
  apply wpS_region
  simp [wpOpsS, go_sem, recoverD, hu, Exit.thenS]
  refine wpS_cond (t := false) (by simp [Act.eval, Array.replicate]) ?_
  simp only [Bool.false_eq_true, if_false]
  refine wpS_of_wp (wp_skip ?_)
  cases c₀
  simp_all [bodyPostS, results, Try.results62]

set_option maxHeartbeats 1000000 in
theorem catchF_up (p : Addr) (y x : Int) (w : World) (hc : w.cell? p = some (.int .i64 x)) (hz : w.frozen? p = false) :
    CallsD Try.prog 65 #[.pointer (some p)] (.panicking (pan y)) w fun e u' w' =>
      e = .returned (.tuple #[]) ∧ u' = .panicking [{ v := .iface 24 (.int .i64 y), recovered := true }] ∧ w' = w.setCell p (.int .i64 y) := by
  refine callsD_of_wpS Try.func65 rfl fun c₀ cs hu => ?_
  apply wpS_seq
  apply wpS_region
  simp [wpOpsS, go_sem, recoverD, hu, Try.ntmps65, Exit.thenS]
  apply wpS_seq
  apply wpS_region
  simp [wpOpsS, go_sem, recoverD, hu, Exit.thenS]
  refine wpS_cond (t := true) (by simp [Act.eval, Array.replicate]) ?_
  simp only [if_true]
  apply wpS_region
  simp [wpOpsS, go_sem, as_errno, hc, hz, bodyPostS, results, Try.results65]
set_option maxHeartbeats 1000000 in
theorem catchF_idle (p : Addr) (w : World) :
    CallsD Try.prog 65 #[.pointer (some p)] .returning w fun e u' w' => e = .returned (.tuple #[]) ∧ u' = .returning ∧ w' = w := by
  refine callsD_of_wpS Try.func65 rfl fun c₀ cs hu => ?_
  apply wpS_seq
  apply wpS_region
  simp [wpOpsS, go_sem, recoverD, hu, Try.ntmps65, Exit.thenS]
  apply wpS_seq
  apply wpS_region
  simp [wpOpsS, go_sem, recoverD, hu, Exit.thenS]
  refine wpS_cond (t := false) (by simp [Act.eval, Array.replicate]) ?_
  simp only [Bool.false_eq_true, if_false]
  refine wpS_of_wp (wp_skip ?_)
  cases c₀
  simp_all [bodyPostS, results, Try.results65]

set_option maxHeartbeats 1000000 in
theorem catchO_up (p : Addr) (y x : Int) (w : World) (hc : w.cell? p = some (.int .i64 x)) (hz : w.frozen? p = false) :
    CallsD Try.prog 67 #[.pointer (some p)] (.panicking (pan y)) w fun e u' w' =>
      e = .returned (.tuple #[]) ∧ u' = .panicking [{ v := .iface 24 (.int .i64 y), recovered := true }] ∧ w' = w.setCell p (.int .i64 y) := by
  refine callsD_of_wpS Try.func67 rfl fun c₀ cs hu => ?_
  apply wpS_seq
  apply wpS_region
  simp [wpOpsS, go_sem, recoverD, hu, Try.ntmps67, Exit.thenS]
  apply wpS_seq
  apply wpS_region
  simp [wpOpsS, go_sem, recoverD, hu, Exit.thenS]
  refine wpS_cond (t := true) (by simp [Act.eval, Array.replicate]) ?_
  simp only [if_true]
  apply wpS_region
  simp [wpOpsS, go_sem, as_errno, hc, hz, bodyPostS, results, Try.results67]
set_option maxHeartbeats 1000000 in
theorem catchO_idle (p : Addr) (w : World) :
    CallsD Try.prog 67 #[.pointer (some p)] .returning w fun e u' w' => e = .returned (.tuple #[]) ∧ u' = .returning ∧ w' = w := by
  refine callsD_of_wpS Try.func67 rfl fun c₀ cs hu => ?_
  apply wpS_seq
  apply wpS_region
  simp [wpOpsS, go_sem, recoverD, hu, Try.ntmps67, Exit.thenS]
  apply wpS_seq
  apply wpS_region
  simp [wpOpsS, go_sem, recoverD, hu, Exit.thenS]
  refine wpS_cond (t := false) (by simp [Act.eval, Array.replicate]) ?_
  simp only [Bool.false_eq_true, if_false]
  refine wpS_of_wp (wp_skip ?_)
  cases c₀
  simp_all [bodyPostS, results, Try.results67]

section
variable {F : Nat} {caps : Array Value} {w : World}
set_option maxHeartbeats 1000000 in
theorem toldB_ok (eg : ∀ args w, (callFunc F args).run Try.prog w = .ok (.enter F args) w) (v : Bool) (hq : ∀ W, Gr w W → Calls Try.prog F caps W fun e w' => e = .returned (.bool v) ∧ Gr W w') :
    Calls Try.prog 31 #[.func (.func F) #[] caps] w fun e w' => e = .returned (.tuple #[.bool v, .int .i64 0]) ∧ Gr w w' := by
  have hmf : ∀ (fn : Fn) (first cap : Array Value) (w : World), (Instr.makeFunc fn first cap).run Try.prog w = .ok (.func fn first cap) w := fun _ _ _ _ => rfl
  have HQ := Lib.hid hq
  clear hq
  go_enter_defers Try.func31, Try.ntmps31
  go_wp2_with fail
  with_reducible refine (HQ.out _ ((Gr.refl w).al _)).mono ?_
  rintro e w1 ⟨rfl, g1⟩
  have B0 := (Blk.new w #[.int .i64 0] 24).gr g1
  obtain ⟨q0, z0⟩ := B0.at_ (k := 0) rfl
  obtain ⟨q1, z1⟩ := (B0.set 0 (.int .i64 0)).at_ (k := 0) (v := .int .i64 0) rfl
  have G := Lib.hid ((((Gr.refl w).al (.cells #[.int .i64 0] 24)).trans g1).st (p := ⟨w.heap.size, 0, none⟩) (Nat.le_refl _) (.int .i64 0))
  clear B0 g1
  go_wp2_with fail
  refine leaves_cons (f := 58) (args := #[.pointer (some ⟨w.heap.size, 0, none⟩)]) (by simp) (by simp [go_sem]) ?_
  refine (catchB_idle ⟨w.heap.size, 0, none⟩ _).mono ?_
  rintro e u' w'' ⟨rfl, rfl, rfl⟩
  simp [Leaves, settle, results, Try.results31, go_sem, q1]
  exact G.out
set_option maxHeartbeats 1000000 in
theorem toldB_no (eg : ∀ args w, (callFunc F args).run Try.prog w = .ok (.enter F args) w) (y : Int) (hq : ∀ W, Gr w W → Calls Try.prog F caps W fun e w' => e = .panicked (pan y) ∧ Gr W w') :
    Calls Try.prog 31 #[.func (.func F) #[] caps] w fun e w' => e = .returned (.tuple #[.bool false, .int .i64 y]) ∧ Gr w w' := by
  have hmf : ∀ (fn : Fn) (first cap : Array Value) (w : World), (Instr.makeFunc fn first cap).run Try.prog w = .ok (.func fn first cap) w := fun _ _ _ _ => rfl
  have HQ := Lib.hid hq
  clear hq
  go_enter_defers Try.func31, Try.ntmps31
  go_wp2_with fail
  with_reducible refine (HQ.out _ ((Gr.refl w).al _)).mono ?_
  rintro e w1 ⟨rfl, g1⟩
  have B0 := (Blk.new w #[.int .i64 0] 24).gr g1
  obtain ⟨q0, z0⟩ := B0.at_ (k := 0) rfl
  obtain ⟨q1, z1⟩ := (B0.set 0 (.int .i64 y)).at_ (k := 0) (v := .int .i64 y) rfl
  have G := Lib.hid ((((Gr.refl w).al (.cells #[.int .i64 0] 24)).trans g1).st (p := ⟨w.heap.size, 0, none⟩) (Nat.le_refl _) (.int .i64 y))
  clear B0 g1
  go_wp2_with fail
  refine leaves_cons (f := 58) (args := #[.pointer (some ⟨w.heap.size, 0, none⟩)]) (by simp) (by simp [go_sem]) ?_
  refine (catchB_up ⟨w.heap.size, 0, none⟩ y 0 _ q0 z0).mono ?_
  rintro e u' w'' ⟨rfl, rfl, rfl⟩
  simp [Leaves, settle, results, Try.results31, go_sem, q1]
  exact G.out
set_option maxHeartbeats 1000000 in
theorem toldI_ok (eg : ∀ args w, (callFunc F args).run Try.prog w = .ok (.enter F args) w) (v : Int) (hq : ∀ W, Gr w W → Calls Try.prog F caps W fun e w' => e = .returned (.int .i64 v) ∧ Gr W w') :
    Calls Try.prog 38 #[.func (.func F) #[] caps] w fun e w' => e = .returned (.tuple #[.int .i64 v, .int .i64 0]) ∧ Gr w w' := by
  have hmf : ∀ (fn : Fn) (first cap : Array Value) (w : World), (Instr.makeFunc fn first cap).run Try.prog w = .ok (.func fn first cap) w := fun _ _ _ _ => rfl
  have HQ := Lib.hid hq
  clear hq
  go_enter_defers Try.func38, Try.ntmps38
  go_wp2_with fail
  with_reducible refine (HQ.out _ ((Gr.refl w).al _)).mono ?_
  rintro e w1 ⟨rfl, g1⟩
  have B0 := (Blk.new w #[.int .i64 0] 24).gr g1
  obtain ⟨q0, z0⟩ := B0.at_ (k := 0) rfl
  obtain ⟨q1, z1⟩ := (B0.set 0 (.int .i64 0)).at_ (k := 0) (v := .int .i64 0) rfl
  have G := Lib.hid ((((Gr.refl w).al (.cells #[.int .i64 0] 24)).trans g1).st (p := ⟨w.heap.size, 0, none⟩) (Nat.le_refl _) (.int .i64 0))
  clear B0 g1
  go_wp2_with fail
  refine leaves_cons (f := 62) (args := #[.pointer (some ⟨w.heap.size, 0, none⟩)]) (by simp) (by simp [go_sem]) ?_
  refine (catchI_idle ⟨w.heap.size, 0, none⟩ _).mono ?_
  rintro e u' w'' ⟨rfl, rfl, rfl⟩
  simp [Leaves, settle, results, Try.results38, go_sem, q1]
  exact G.out
set_option maxHeartbeats 1000000 in
theorem toldI_no (eg : ∀ args w, (callFunc F args).run Try.prog w = .ok (.enter F args) w) (y : Int) (hq : ∀ W, Gr w W → Calls Try.prog F caps W fun e w' => e = .panicked (pan y) ∧ Gr W w') :
    Calls Try.prog 38 #[.func (.func F) #[] caps] w fun e w' => e = .returned (.tuple #[.int .i64 0, .int .i64 y]) ∧ Gr w w' := by
  have hmf : ∀ (fn : Fn) (first cap : Array Value) (w : World), (Instr.makeFunc fn first cap).run Try.prog w = .ok (.func fn first cap) w := fun _ _ _ _ => rfl
  have HQ := Lib.hid hq
  clear hq
  go_enter_defers Try.func38, Try.ntmps38
  go_wp2_with fail
  with_reducible refine (HQ.out _ ((Gr.refl w).al _)).mono ?_
  rintro e w1 ⟨rfl, g1⟩
  have B0 := (Blk.new w #[.int .i64 0] 24).gr g1
  obtain ⟨q0, z0⟩ := B0.at_ (k := 0) rfl
  obtain ⟨q1, z1⟩ := (B0.set 0 (.int .i64 y)).at_ (k := 0) (v := .int .i64 y) rfl
  have G := Lib.hid ((((Gr.refl w).al (.cells #[.int .i64 0] 24)).trans g1).st (p := ⟨w.heap.size, 0, none⟩) (Nat.le_refl _) (.int .i64 y))
  clear B0 g1
  go_wp2_with fail
  refine leaves_cons (f := 62) (args := #[.pointer (some ⟨w.heap.size, 0, none⟩)]) (by simp) (by simp [go_sem]) ?_
  refine (catchI_up ⟨w.heap.size, 0, none⟩ y 0 _ q0 z0).mono ?_
  rintro e u' w'' ⟨rfl, rfl, rfl⟩
  simp [Leaves, settle, results, Try.results38, go_sem, q1]
  exact G.out
set_option maxHeartbeats 2000000 in
theorem toldF_ok (eg : ∀ args w, (callFunc F args).run Try.prog w = .ok (.enter F args) w) (a b c : Bool) (n : Int) (hq : ∀ W, Gr w W → Calls Try.prog F caps W fun e w' => e = .returned (.agg #[.bool a, .bool b, .bool c, .int .i64 n]) ∧ Gr W w') :
    Calls Try.prog 44 #[.func (.func F) #[] caps] w fun e w' => e = .returned (.tuple #[.agg #[.bool a, .bool b, .bool c, .int .i64 n], .int .i64 0]) ∧ Gr w w' := by
  have hmf : ∀ (fn : Fn) (first cap : Array Value) (w : World), (Instr.makeFunc fn first cap).run Try.prog w = .ok (.func fn first cap) w := fun _ _ _ _ => rfl
  have HQ := Lib.hid hq
  clear hq
  go_enter_defers Try.func44, Try.ntmps44
  go_wp2_with fail
  with_reducible refine (HQ.out _ (((Gr.refl w).al _).al _)).mono ?_
  rintro e w1 ⟨rfl, g1⟩
  have B0 := ((Blk.new w #[.bool false, .bool false, .bool false, .int .i64 0] 43).al (.cells #[.int .i64 0] 24)).gr g1
  have B1 := (Blk.new (w.alloc (.cells #[.bool false, .bool false, .bool false, .int .i64 0] 43)) #[.int .i64 0] 24).gr g1
  rw [World.size_alloc] at B1
  have G0 := (((Gr.refl w).al (.cells #[.bool false, .bool false, .bool false, .int .i64 0] 43)).al (.cells #[.int .i64 0] 24)).trans g1
  have hne : w.heap.size + 1 ≠ w.heap.size := by omega
  obtain ⟨a0, y0⟩ := B0.at_ (k := 0) rfl
  obtain ⟨a1, y1⟩ := B0.at_ (k := 1) rfl
  obtain ⟨a2, y2⟩ := B0.at_ (k := 2) rfl
  obtain ⟨a3, y3⟩ := B0.at_ (k := 3) rfl
  obtain ⟨q0, z0⟩ := B1.at_ (k := 0) rfl
  have BF := ((((B0.set 0 (.bool a)).set 1 (.bool b)).set 2 (.bool c)).set 3 (.int .i64 n)).st (p := ⟨w.heap.size + 1, 0, none⟩) hne (.int .i64 0)
  have BG := ((((B1.st (p := ⟨w.heap.size, 0, none⟩) hne.symm (.bool a)).st (p := ⟨w.heap.size, 1, none⟩) hne.symm (.bool b)).st (p := ⟨w.heap.size, 2, none⟩) hne.symm (.bool c)).st (p := ⟨w.heap.size, 3, none⟩) hne.symm (.int .i64 n)).set 0 (.int .i64 0)
  obtain ⟨c0, x0⟩ := BF.at_ (k := 0) (v := .bool a) rfl
  obtain ⟨c1, x1⟩ := BF.at_ (k := 1) (v := .bool b) rfl
  obtain ⟨c2, x2⟩ := BF.at_ (k := 2) (v := .bool c) rfl
  obtain ⟨c3, x3⟩ := BF.at_ (k := 3) (v := .int .i64 n) rfl
  obtain ⟨q1, z1⟩ := BG.at_ (k := 0) (v := .int .i64 0) rfl
  have G := Lib.hid (((((G0.st (p := ⟨w.heap.size, 0, none⟩) (Nat.le_refl _) (.bool a)).st (p := ⟨w.heap.size, 1, none⟩) (Nat.le_refl _) (.bool b)).st (p := ⟨w.heap.size, 2, none⟩) (Nat.le_refl _) (.bool c)).st (p := ⟨w.heap.size, 3, none⟩) (Nat.le_refl _) (.int .i64 n)).st (p := ⟨w.heap.size + 1, 0, none⟩) (Nat.le_succ _) (.int .i64 0))
  clear B0 B1 BF BG g1 G0
  go_wp2_with fail
  refine leaves_cons (f := 65) (args := #[.pointer (some ⟨w.heap.size + 1, 0, none⟩)]) (by simp) (by simp [go_sem]) ?_
  refine (catchF_idle ⟨w.heap.size + 1, 0, none⟩ _).mono ?_
  rintro e u' w'' ⟨rfl, rfl, rfl⟩
  simp [Leaves, settle, results, Try.results44, go_sem, q1, c0, c1, c2, c3]
  exact G.out
set_option maxHeartbeats 2000000 in
theorem toldF_no (eg : ∀ args w, (callFunc F args).run Try.prog w = .ok (.enter F args) w) (y : Int) (hq : ∀ W, Gr w W → Calls Try.prog F caps W fun e w' => e = .panicked (pan y) ∧ Gr W w') :
    Calls Try.prog 44 #[.func (.func F) #[] caps] w fun e w' => e = .returned (.tuple #[.agg #[.bool false, .bool false, .bool false, .int .i64 0], .int .i64 y]) ∧ Gr w w' := by
  have hmf : ∀ (fn : Fn) (first cap : Array Value) (w : World), (Instr.makeFunc fn first cap).run Try.prog w = .ok (.func fn first cap) w := fun _ _ _ _ => rfl
  have HQ := Lib.hid hq
  clear hq
  go_enter_defers Try.func44, Try.ntmps44
  go_wp2_with fail
  with_reducible refine (HQ.out _ (((Gr.refl w).al _).al _)).mono ?_
  rintro e w1 ⟨rfl, g1⟩
  have B0 := ((Blk.new w #[.bool false, .bool false, .bool false, .int .i64 0] 43).al (.cells #[.int .i64 0] 24)).gr g1
  have B1 := (Blk.new (w.alloc (.cells #[.bool false, .bool false, .bool false, .int .i64 0] 43)) #[.int .i64 0] 24).gr g1
  rw [World.size_alloc] at B1
  have G0 := (((Gr.refl w).al (.cells #[.bool false, .bool false, .bool false, .int .i64 0] 43)).al (.cells #[.int .i64 0] 24)).trans g1
  have hne : w.heap.size + 1 ≠ w.heap.size := by omega
  obtain ⟨q0, z0⟩ := B1.at_ (k := 0) rfl
  have BF := B0.st (p := ⟨w.heap.size + 1, 0, none⟩) hne (.int .i64 y)
  obtain ⟨c0, x0⟩ := BF.at_ (k := 0) (v := .bool false) rfl
  obtain ⟨c1, x1⟩ := BF.at_ (k := 1) (v := .bool false) rfl
  obtain ⟨c2, x2⟩ := BF.at_ (k := 2) (v := .bool false) rfl
  obtain ⟨c3, x3⟩ := BF.at_ (k := 3) (v := .int .i64 0) rfl
  obtain ⟨q1, z1⟩ := (B1.set 0 (.int .i64 y)).at_ (k := 0) (v := .int .i64 y) rfl
  have G := Lib.hid (G0.st (p := ⟨w.heap.size + 1, 0, none⟩) (Nat.le_succ _) (.int .i64 y))
  clear B0 B1 BF g1 G0
  go_wp2_with fail
  refine leaves_cons (f := 65) (args := #[.pointer (some ⟨w.heap.size + 1, 0, none⟩)]) (by simp) (by simp [go_sem]) ?_
  refine (catchF_up ⟨w.heap.size + 1, 0, none⟩ y 0 _ q0 z0).mono ?_
  rintro e u' w'' ⟨rfl, rfl, rfl⟩
  simp [Leaves, settle, results, Try.results44, go_sem, q1, c0, c1, c2, c3]
  exact G.out
set_option maxHeartbeats 2000000 in
theorem toldO_ok (eg : ∀ args w, (callFunc F args).run Try.prog w = .ok (.enter F args) w) (s : Int) (t k : Bool) (r o : Int) (hq : ∀ W, Gr w W → Calls Try.prog F caps W fun e w' => e = .returned (.agg #[.int .i64 s, .bool t, .bool k, .int .i64 r, .int .i64 o]) ∧ Gr W w') :
    Calls Try.prog 50 #[.func (.func F) #[] caps] w fun e w' => e = .returned (.tuple #[.agg #[.int .i64 s, .bool t, .bool k, .int .i64 r, .int .i64 o], .int .i64 0]) ∧ Gr w w' := by
  have hmf : ∀ (fn : Fn) (first cap : Array Value) (w : World), (Instr.makeFunc fn first cap).run Try.prog w = .ok (.func fn first cap) w := fun _ _ _ _ => rfl
  have HQ := Lib.hid hq
  clear hq
  go_enter_defers Try.func50, Try.ntmps50
  go_wp2_with fail
  with_reducible refine (HQ.out _ (((Gr.refl w).al _).al _)).mono ?_
  rintro e w1 ⟨rfl, g1⟩
  have B0 := ((Blk.new w #[.int .i64 0, .bool false, .bool false, .int .i64 0, .int .i64 0] 23).al (.cells #[.int .i64 0] 24)).gr g1
  have B1 := (Blk.new (w.alloc (.cells #[.int .i64 0, .bool false, .bool false, .int .i64 0, .int .i64 0] 23)) #[.int .i64 0] 24).gr g1
  rw [World.size_alloc] at B1
  have G0 := (((Gr.refl w).al (.cells #[.int .i64 0, .bool false, .bool false, .int .i64 0, .int .i64 0] 23)).al (.cells #[.int .i64 0] 24)).trans g1
  have hne : w.heap.size + 1 ≠ w.heap.size := by omega
  obtain ⟨a0, y0⟩ := B0.at_ (k := 0) rfl
  obtain ⟨a1, y1⟩ := B0.at_ (k := 1) rfl
  obtain ⟨a2, y2⟩ := B0.at_ (k := 2) rfl
  obtain ⟨a3, y3⟩ := B0.at_ (k := 3) rfl
  obtain ⟨a4, y4⟩ := B0.at_ (k := 4) rfl
  obtain ⟨q0, z0⟩ := B1.at_ (k := 0) rfl
  have BF := (((((B0.set 0 (.int .i64 s)).set 1 (.bool t)).set 2 (.bool k)).set 3 (.int .i64 r)).set 4 (.int .i64 o)).st (p := ⟨w.heap.size + 1, 0, none⟩) hne (.int .i64 0)
  have BG := (((((B1.st (p := ⟨w.heap.size, 0, none⟩) hne.symm (.int .i64 s)).st (p := ⟨w.heap.size, 1, none⟩) hne.symm (.bool t)).st (p := ⟨w.heap.size, 2, none⟩) hne.symm (.bool k)).st (p := ⟨w.heap.size, 3, none⟩) hne.symm (.int .i64 r)).st (p := ⟨w.heap.size, 4, none⟩) hne.symm (.int .i64 o)).set 0 (.int .i64 0)
  obtain ⟨c0, x0⟩ := BF.at_ (k := 0) (v := .int .i64 s) rfl
  obtain ⟨c1, x1⟩ := BF.at_ (k := 1) (v := .bool t) rfl
  obtain ⟨c2, x2⟩ := BF.at_ (k := 2) (v := .bool k) rfl
  obtain ⟨c3, x3⟩ := BF.at_ (k := 3) (v := .int .i64 r) rfl
  obtain ⟨c4, x4⟩ := BF.at_ (k := 4) (v := .int .i64 o) rfl
  obtain ⟨q1, z1⟩ := BG.at_ (k := 0) (v := .int .i64 0) rfl
  have G := Lib.hid ((((((G0.st (p := ⟨w.heap.size, 0, none⟩) (Nat.le_refl _) (.int .i64 s)).st (p := ⟨w.heap.size, 1, none⟩) (Nat.le_refl _) (.bool t)).st (p := ⟨w.heap.size, 2, none⟩) (Nat.le_refl _) (.bool k)).st (p := ⟨w.heap.size, 3, none⟩) (Nat.le_refl _) (.int .i64 r)).st (p := ⟨w.heap.size, 4, none⟩) (Nat.le_refl _) (.int .i64 o)).st (p := ⟨w.heap.size + 1, 0, none⟩) (Nat.le_succ _) (.int .i64 0))
  clear B0 B1 BF BG g1 G0
  go_wp2_with fail
  refine leaves_cons (f := 67) (args := #[.pointer (some ⟨w.heap.size + 1, 0, none⟩)]) (by simp) (by simp [go_sem]) ?_
  refine (catchO_idle ⟨w.heap.size + 1, 0, none⟩ _).mono ?_
  rintro e u' w'' ⟨rfl, rfl, rfl⟩
  simp [Leaves, settle, results, Try.results50, go_sem, q1, c0, c1, c2, c3, c4]
  exact G.out
set_option maxHeartbeats 2000000 in
theorem toldO_no (eg : ∀ args w, (callFunc F args).run Try.prog w = .ok (.enter F args) w) (y : Int) (hq : ∀ W, Gr w W → Calls Try.prog F caps W fun e w' => e = .panicked (pan y) ∧ Gr W w') :
    Calls Try.prog 50 #[.func (.func F) #[] caps] w fun e w' => e = .returned (.tuple #[.agg #[.int .i64 0, .bool false, .bool false, .int .i64 0, .int .i64 0], .int .i64 y]) ∧ Gr w w' := by
  have hmf : ∀ (fn : Fn) (first cap : Array Value) (w : World), (Instr.makeFunc fn first cap).run Try.prog w = .ok (.func fn first cap) w := fun _ _ _ _ => rfl
  have HQ := Lib.hid hq
  clear hq
  go_enter_defers Try.func50, Try.ntmps50
  go_wp2_with fail
  with_reducible refine (HQ.out _ (((Gr.refl w).al _).al _)).mono ?_
  rintro e w1 ⟨rfl, g1⟩
  have B0 := ((Blk.new w #[.int .i64 0, .bool false, .bool false, .int .i64 0, .int .i64 0] 23).al (.cells #[.int .i64 0] 24)).gr g1
  have B1 := (Blk.new (w.alloc (.cells #[.int .i64 0, .bool false, .bool false, .int .i64 0, .int .i64 0] 23)) #[.int .i64 0] 24).gr g1
  rw [World.size_alloc] at B1
  have G0 := (((Gr.refl w).al (.cells #[.int .i64 0, .bool false, .bool false, .int .i64 0, .int .i64 0] 23)).al (.cells #[.int .i64 0] 24)).trans g1
  have hne : w.heap.size + 1 ≠ w.heap.size := by omega
  obtain ⟨q0, z0⟩ := B1.at_ (k := 0) rfl
  have BF := B0.st (p := ⟨w.heap.size + 1, 0, none⟩) hne (.int .i64 y)
  obtain ⟨c0, x0⟩ := BF.at_ (k := 0) (v := .int .i64 0) rfl
  obtain ⟨c1, x1⟩ := BF.at_ (k := 1) (v := .bool false) rfl
  obtain ⟨c2, x2⟩ := BF.at_ (k := 2) (v := .bool false) rfl
  obtain ⟨c3, x3⟩ := BF.at_ (k := 3) (v := .int .i64 0) rfl
  obtain ⟨c4, x4⟩ := BF.at_ (k := 4) (v := .int .i64 0) rfl
  obtain ⟨q1, z1⟩ := (B1.set 0 (.int .i64 y)).at_ (k := 0) (v := .int .i64 y) rfl
  have G := Lib.hid (G0.st (p := ⟨w.heap.size + 1, 0, none⟩) (Nat.le_succ _) (.int .i64 y))
  clear B0 B1 BF g1 G0
  go_wp2_with fail
  refine leaves_cons (f := 67) (args := #[.pointer (some ⟨w.heap.size + 1, 0, none⟩)]) (by simp) (by simp [go_sem]) ?_
  refine (catchO_up ⟨w.heap.size + 1, 0, none⟩ y 0 _ q0 z0).mono ?_
  rintro e u' w'' ⟨rfl, rfl, rfl⟩
  simp [Leaves, settle, results, Try.results50, go_sem, q1, c0, c1, c2, c3, c4]
  exact G.out
end
end P14
end Go.Proofs.Ytddgihbgdlnlbaa
