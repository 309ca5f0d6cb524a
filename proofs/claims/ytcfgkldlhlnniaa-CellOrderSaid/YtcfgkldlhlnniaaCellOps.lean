/-
  Package cell: Store, Add, Swap, Cas.
-/
import Derived.Test.YtcfgkldlhlnniaaCellAcc
namespace Go.Proofs.Ytcfgkldlhlnniaa
open Go.ChangeShapes Go.WideShapes Go.ChangeAt Go.RowKit
set_option linter.unusedVariables false

section
variable {A : Option Addr} {n c : Nat} {l : List (Int × Int)} {i : Nat} {x : Int × Int} {w : World}

theorem FindIs.arg {j : Int} (hn : n ≤ 9223372036854775807) (hr : rightB l = false) : FindIs A n c l j 0 0 1 := fun w hm => find_arg A n c l j w hm hn hr
theorem FindIs.range {j : Int} (hn : n ≤ 9223372036854775807) (hr : rightB l = true) (hj : j < 0 ∨ n ≤ j) : FindIs A n c l j 0 0 3 := fun w hm => find_range A n c l j w hm hn hr hj
theorem FindIs.ok (hn : n ≤ 9223372036854775807) (hr : rightB l = true) (hx : l[i]? = some x) : FindIs A n c l i x.1 x.2 0 := fun w hm => find_ok A n c l i x w hm hn hr hx

theorem right_fit (hr : rightB l = true) (hx : l[i]? = some x) : fitB x.1 x.2 = true := by
  simp only [rightB, Bool.and_eq_true, List.all_eq_true] at hr
  exact hr.2 x (List.mem_of_getElem? hx)
theorem right_64 (hr : rightB l = true) (hm : Mem w A n l) : n ≤ 64 := by
  simp only [rightB, Bool.and_eq_true, decide_eq_true_eq] at hr
  have := hm.1
  omega

set_option maxHeartbeats 400000 in
theorem Swap_ok {v : Int} (hr : rightB l = true) (hx : l[i]? = some x) (hv : Inb v) (hm : Mem w A n l) :
    Calls Try.prog 10 #[.slice A n c, .int .i64 i, .int .i64 v] w (GotMem w n (l.set i (x.1, wd x.1 v)) (.int .i64 x.2)) := by
  have h64 := right_64 hr hm
  have hk := fit_kind (right_fit hr hx)
  have cc := Lib.hid (accSwap (A := A) (n := n) (c := c) (l := l) (i := i) (x := x) (told := .int .i64 x.2) (y := wd x.1 v) (p := ⟨w.heap.size, 0, none⟩) (w := w.alloc (.cells #[.int .i64 v] 3)) (FindIs.ok (by omega) hr hx)
    (fun W hW => swapFn_ok x.1 x.2 v w.heap.size W hk hv (by have := hW.size; simp at this; omega) ((hW.cell (p := ⟨w.heap.size, 0, none⟩) (by simp)).trans (by simp))) (hm.gr ((Gr.refl w).al _)) h64 hx (wd_b _ _ hv))
  clear hr hx hm
  go_enter Try.func10, Try.ntmps10
  go_wp2_with fail
  refine cc.out.mono ?_
  rintro ee w1 ⟨g, rfl, hm1, hb1⟩
  go_wp2_with fail
  go_ret3
  exact ⟨g, rfl, hm1, ((Gr.refl w).al _).trans hb1⟩
set_option maxHeartbeats 400000 in
theorem Add2_ok {d : Int} (hr : rightB l = true) (hx : l[i]? = some x) (hm : Mem w A n l) :
    Calls Try.prog 9 #[.slice A n c, .int .i64 i, .int .i64 d] w (GotMem w n (l.set i (x.1, wd x.1 (wrap64 (x.2 + d)))) (.int .i64 (wd x.1 (wrap64 (x.2 + d))))) := by
  have h64 := right_64 hr hm
  have hk := fit_kind (right_fit hr hx)
  have cc := Lib.hid (accAdd (A := A) (n := n) (c := c) (l := l) (i := i) (x := x) (told := .int .i64 (wd x.1 (wrap64 (x.2 + d)))) (y := wd x.1 (wrap64 (x.2 + d))) (p := ⟨w.heap.size, 0, none⟩) (w := w.alloc (.cells #[.int .i64 d] 3)) (FindIs.ok (by omega) hr hx)
    (fun W hW => addFn_ok x.1 x.2 d w.heap.size W hk (by have := hW.size; simp at this; omega) ((hW.cell (p := ⟨w.heap.size, 0, none⟩) (by simp)).trans (by simp))) (hm.gr ((Gr.refl w).al _)) h64 hx (wd_b _ _ (wrap64_b _)))
  clear hr hx hm
  go_enter Try.func9, Try.ntmps9
  go_wp2_with fail
  refine cc.out.mono ?_
  rintro ee w1 ⟨g, rfl, hm1, hb1⟩
  go_wp2_with fail
  go_ret3
  exact ⟨g, rfl, hm1, ((Gr.refl w).al _).trans hb1⟩
set_option maxHeartbeats 400000 in
theorem Cas_hit {old v : Int} (hr : rightB l = true) (hx : l[i]? = some x) (ho : Inb old) (hv : Inb v) (hm : Mem w A n l) (hh : wd x.1 old = x.2) :
    Calls Try.prog 11 #[.slice A n c, .int .i64 i, .int .i64 old, .int .i64 v] w (GotMem w n (l.set i (x.1, wd x.1 v)) (.bool true)) := by
  have h64 := right_64 hr hm
  have hk := fit_kind (right_fit hr hx)
  have cc := Lib.hid (accCas (A := A) (n := n) (c := c) (l := l) (i := i) (x := x) (told := .bool true) (y := wd x.1 v) (p := ⟨w.heap.size, 0, none⟩) (q := ⟨w.heap.size + 1, 0, none⟩) (w := (w.alloc (.cells #[.int .i64 old] 3)).alloc (.cells #[.int .i64 v] 3)) (FindIs.ok (by omega) hr hx)
    (fun W hW => casFn_hit x.1 x.2 old v w.heap.size (w.heap.size + 1) W hk ho hv (by have := hW.size; simp at this; omega) (by have := hW.size; simp at this; omega) ((hW.cell (p := ⟨w.heap.size, 0, none⟩) (by simp; omega)).trans (by simp)) ((hW.cell (p := ⟨w.heap.size + 1, 0, none⟩) (by simp)).trans (by simp)) hh) (hm.gr (((Gr.refl w).al _).al _)) h64 hx (wd_b _ _ hv))
  clear hr hx hm hh
  go_enter Try.func11, Try.ntmps11
  go_wp2_with fail
  refine cc.out.mono ?_
  rintro ee w1 ⟨g, rfl, hm1, hb1⟩
  go_wp2_with fail
  go_ret3
  exact ⟨g, rfl, hm1, (((Gr.refl w).al _).al _).trans hb1⟩
set_option maxHeartbeats 400000 in
theorem Cas_miss {old v : Int} (hr : rightB l = true) (hx : l[i]? = some x) (ho : Inb old) (hv : Inb v) (hm : Mem w A n l) (hh : wd x.1 old ≠ x.2) :
    Calls Try.prog 11 #[.slice A n c, .int .i64 i, .int .i64 old, .int .i64 v] w (GotMem w n (l.set i (x.1, x.2)) (.bool false)) := by
  have h64 := right_64 hr hm
  have hk := fit_kind (right_fit hr hx)
  have cc := Lib.hid (accCas (A := A) (n := n) (c := c) (l := l) (i := i) (x := x) (told := .bool false) (y := x.2) (p := ⟨w.heap.size, 0, none⟩) (q := ⟨w.heap.size + 1, 0, none⟩) (w := (w.alloc (.cells #[.int .i64 old] 3)).alloc (.cells #[.int .i64 v] 3)) (FindIs.ok (by omega) hr hx)
    (fun W hW => casFn_miss x.1 x.2 old v w.heap.size (w.heap.size + 1) W hk ho hv (by have := hW.size; simp at this; omega) (by have := hW.size; simp at this; omega) ((hW.cell (p := ⟨w.heap.size, 0, none⟩) (by simp; omega)).trans (by simp)) ((hW.cell (p := ⟨w.heap.size + 1, 0, none⟩) (by simp)).trans (by simp)) hh) (hm.gr (((Gr.refl w).al _).al _)) h64 hx (hm.fits hx).2)
  clear hr hx hm hh
  go_enter Try.func11, Try.ntmps11
  go_wp2_with fail
  refine cc.out.mono ?_
  rintro ee w1 ⟨g, rfl, hm1, hb1⟩
  go_wp2_with fail
  go_ret3
  exact ⟨g, rfl, hm1, (((Gr.refl w).al _).al _).trans hb1⟩
set_option maxHeartbeats 400000 in
theorem Add2_no {j e v : Int} (hF : FindIs A n c l j 0 0 e) (he : e = 1 ∨ e = 3) (hm : Mem w A n l) :
    Calls Try.prog 9 #[.slice A n c, .int .i64 j, .int .i64 v] w fun ee w' => ee = .returned (.tuple #[.slice none 0 0, .int .i64 0, .int .i64 e]) ∧ Gr w w' := by
  have cc := fun f => Lib.hid (accInt_no (f := f) (w := (w.alloc (.cells #[.int .i64 v] 3))) hF he (hm.gr ((Gr.refl w).al _)))
  clear hm he
  go_enter Try.func9, Try.ntmps9
  go_wp2_with fail
  refine (cc _).out.mono ?_
  rintro ee w1 ⟨rfl, hb1⟩
  go_wp2_with fail
  go_ret3
  exact ⟨rfl, ((Gr.refl w).al _).trans hb1⟩
set_option maxHeartbeats 400000 in
theorem Swap_no {j e v : Int} (hF : FindIs A n c l j 0 0 e) (he : e = 1 ∨ e = 3) (hm : Mem w A n l) :
    Calls Try.prog 10 #[.slice A n c, .int .i64 j, .int .i64 v] w fun ee w' => ee = .returned (.tuple #[.slice none 0 0, .int .i64 0, .int .i64 e]) ∧ Gr w w' := by
  have cc := fun f => Lib.hid (accInt_no (f := f) (w := (w.alloc (.cells #[.int .i64 v] 3))) hF he (hm.gr ((Gr.refl w).al _)))
  clear hm he
  go_enter Try.func10, Try.ntmps10
  go_wp2_with fail
  refine (cc _).out.mono ?_
  rintro ee w1 ⟨rfl, hb1⟩
  go_wp2_with fail
  go_ret3
  exact ⟨rfl, ((Gr.refl w).al _).trans hb1⟩
set_option maxHeartbeats 400000 in
theorem Cas_no {j e old v : Int} (hF : FindIs A n c l j 0 0 e) (he : e = 1 ∨ e = 3) (hm : Mem w A n l) :
    Calls Try.prog 11 #[.slice A n c, .int .i64 j, .int .i64 old, .int .i64 v] w fun ee w' => ee = .returned (.tuple #[.slice none 0 0, .bool false, .int .i64 e]) ∧ Gr w w' := by
  have cc := fun f => Lib.hid (accBool_no (f := f) (w := ((w.alloc (.cells #[.int .i64 old] 3)).alloc (.cells #[.int .i64 v] 3))) hF he (hm.gr (((Gr.refl w).al _).al _)))
  clear hm he
  go_enter Try.func11, Try.ntmps11
  go_wp2_with fail
  refine (cc _).out.mono ?_
  rintro ee w1 ⟨rfl, hb1⟩
  go_wp2_with fail
  go_ret3
  exact ⟨rfl, (((Gr.refl w).al _).al _).trans hb1⟩
/-- A new memory l that lies in new memory. -/
def GotMem2 (w : World) (n : Nat) (l : List (Int × Int)) (e : Ending) (w' : World) : Prop :=
  ∃ g, e = .returned (.tuple #[.slice (some ⟨g, 0, none⟩) n n, .int .i64 0]) ∧ Mem w' (some ⟨g, 0, none⟩) n l ∧ Gr w w'
set_option maxHeartbeats 400000 in
theorem Store_ok {v : Int} (hr : rightB l = true) (hx : l[i]? = some x) (hv : Inb v) (hm : Mem w A n l) :
    Calls Try.prog 8 #[.slice A n c, .int .i64 i, .int .i64 v] w (GotMem2 w n (l.set i (x.1, wd x.1 v))) := by
  have cc := Lib.hid (Swap_ok (c := c) hr hx hv hm)
  clear hr hx hm
  go_enter Try.func8, Try.ntmps8
  go_wp2_with fail
  refine cc.out.mono ?_
  rintro ee w1 ⟨g, rfl, hm1, hb1⟩
  go_wp2_with fail
  go_ret2
  exact ⟨g, rfl, hm1, hb1⟩
set_option maxHeartbeats 400000 in
theorem Store_no {j e v : Int} (hF : FindIs A n c l j 0 0 e) (he : e = 1 ∨ e = 3) (hm : Mem w A n l) :
    Calls Try.prog 8 #[.slice A n c, .int .i64 j, .int .i64 v] w fun ee w' => ee = .returned (.tuple #[.slice none 0 0, .int .i64 e]) ∧ Gr w w' := by
  have cc := Lib.hid (Swap_no (v := v) hF he hm)
  clear hm he
  go_enter Try.func8, Try.ntmps8
  go_wp2_with fail
  refine cc.out.mono ?_
  rintro ee w1 ⟨rfl, hb1⟩
  go_wp2_with fail
  go_ret2
  exact ⟨rfl, hb1⟩
end
end Go.Proofs.Ytcfgkldlhlnniaa
