/-
  Package grab: what Wake answers.
-/
import Derived.Test.YtddgihbgdlnlbaaGrabWoken
import Derived.RegionTactic
import Derived.Deep.DeepCutAuto
namespace Go.Proofs.Ytddgihbgdlnlbaa
open Go.ChangeShapes Go.WideShapes Go.ChangeAt Go.RowKit Go.Shelf
set_option linter.unusedVariables false
set_option linter.unusedSimpArgs false

namespace P14
open P3 (fl pw)
open P4 (Tm)

/-- w' is w with new blocks, and block h changed. -/
structure But (h : Nat) (w w' : World) : Prop where
  os : w'.os = w.os
  tape : w'.tape = w.tape
  output : w'.output = w.output
  size : w.heap.size ≤ w'.heap.size
  block : ∀ b, b < w.heap.size → b ≠ h → w'.heap[b]? = w.heap[b]?
section
variable {h : Nat} {a w w' w'' : World}
theorem But.of (g : Gr w w') : But h w w' := ⟨g.os, g.tape, g.output, g.size, fun b hb _ => g.block b hb⟩
theorem But.set (g : But h w w') (i : Nat) (v : Value) : But h w (w'.setCell ⟨h, i, none⟩ v) :=
  ⟨g.os, g.tape, g.output, by simpa using g.size, fun b hb hn => (Below.heap_setCell w' ⟨h, i, none⟩ v b hn).trans (g.block b hb hn)⟩
theorem But.st (g : But h w w') {p : Addr} (hp : w.heap.size ≤ p.block) (v : Value) : But h w (w'.setCell p v) :=
  ⟨g.os, g.tape, g.output, by simpa using g.size, fun b hb hn => (Below.heap_setCell w' p v b (Nat.ne_of_lt (Nat.lt_of_lt_of_le hb hp))).trans (g.block b hb hn)⟩
theorem But.trans (g : But h a w) (g' : But h w w') : But h a w' :=
  ⟨g'.os.trans g.os, g'.tape.trans g.tape, g'.output.trans g.output, Nat.le_trans g.size g'.size, fun b hb hn => (g'.block b (Nat.lt_of_lt_of_le hb g.size) hn).trans (g.block b hb hn)⟩
theorem But.gr (g : Gr a w) (g' : But h w w') (hh : a.heap.size ≤ h) : Gr a w' :=
  ⟨g'.os.trans g.os, g'.tape.trans g.tape, g'.output.trans g.output, Nat.le_trans g.size g'.size, fun b hb => (g'.block b (Nat.lt_of_lt_of_le hb g.size) (Nat.ne_of_lt (Nat.lt_of_lt_of_le hb hh))).trans (g.block b hb)⟩
theorem But.blk {b : Nat} {vs : Array Value} {t : TypeId} (g : But h w w') (B : Blk w b vs t) (hn : b ≠ h) : Blk w' b vs t := by
  unfold Blk; rw [g.block b B.lt hn]; exact B
theorem But.own {g : Nat} (G : But h w w') (hg : w.heap.size ≤ g) (s : Int) (t k : Bool) (r o : Int) :
    But h w (((((w'.setCell ⟨g, 0, none⟩ (.int .i64 s)).setCell ⟨g, 1, none⟩ (.bool t)).setCell ⟨g, 2, none⟩ (.bool k)).setCell ⟨g, 3, none⟩ (.int .i64 r)).setCell ⟨g, 4, none⟩ (.int .i64 o)) :=
  ((((G.st (p := ⟨g, 0, none⟩) hg _).st (p := ⟨g, 1, none⟩) hg _).st (p := ⟨g, 2, none⟩) hg _).st (p := ⟨g, 3, none⟩) hg _).st (p := ⟨g, 4, none⟩) hg _
theorem own_far {W : World} {g b : Nat} {vs : Array Value} {T : TypeId} (B : Blk W b vs T) (hn : g ≠ b) (s : Int) (t k : Bool) (r o : Int) :
    Blk (((((W.setCell ⟨g, 0, none⟩ (.int .i64 s)).setCell ⟨g, 1, none⟩ (.bool t)).setCell ⟨g, 2, none⟩ (.bool k)).setCell ⟨g, 3, none⟩ (.int .i64 r)).setCell ⟨g, 4, none⟩ (.int .i64 o)) b vs T :=
  ((((B.st (p := ⟨g, 0, none⟩) hn _).st (p := ⟨g, 1, none⟩) hn _).st (p := ⟨g, 2, none⟩) hn _).st (p := ⟨g, 3, none⟩) hn _).st (p := ⟨g, 4, none⟩) hn _
end

section
variable {F : Nat} {caps : Array Value} {w : World}
set_option maxHeartbeats 2000000 in
/-- told, where what is asked changes one old block. -/
theorem toldX_ok (eg : ∀ args w, (callFunc F args).run Try.prog w = .ok (.enter F args) w) (s : Int) (t k : Bool) (r o : Int) {h : Nat} (hh : h < w.heap.size) {vs : Array Value} {Th : TypeId}
    (hq : ∀ W, Gr w W → Calls Try.prog F caps W fun e w' => e = .returned (.agg #[.int .i64 s, .bool t, .bool k, .int .i64 r, .int .i64 o]) ∧ But h W w' ∧ Blk w' h vs Th) :
    Calls Try.prog 50 #[.func (.func F) #[] caps] w fun e w' => e = .returned (.tuple #[.agg #[.int .i64 s, .bool t, .bool k, .int .i64 r, .int .i64 o], .int .i64 0]) ∧ But h w w' ∧ Blk w' h vs Th := by
  have hmf : ∀ (fn : Fn) (first cap : Array Value) (w : World), (Instr.makeFunc fn first cap).run Try.prog w = .ok (.func fn first cap) w := fun _ _ _ _ => rfl
  have HQ := Lib.hid hq
  clear hq
  have h1 : w.heap.size ≠ h := by omega
  have h2 : w.heap.size + 1 ≠ h := by omega
  go_enter_defers Try.func50, Try.ntmps50
  go_wp2_with fail
  with_reducible refine (HQ.out _ (((Gr.refl w).al _).al _)).mono ?_
  rintro e w1 ⟨rfl, g1, X1⟩
  have B0 := g1.blk ((Blk.new w #[.int .i64 0, .bool false, .bool false, .int .i64 0, .int .i64 0] 23).al (.cells #[.int .i64 0] 24)) h1
  have B1 := Blk.new (w.alloc (.cells #[.int .i64 0, .bool false, .bool false, .int .i64 0, .int .i64 0] 23)) #[.int .i64 0] 24
  rw [World.size_alloc] at B1
  replace B1 := g1.blk B1 h2
  have G0 := (But.of (h := h) (((Gr.refl w).al (.cells #[.int .i64 0, .bool false, .bool false, .int .i64 0, .int .i64 0] 23)).al (.cells #[.int .i64 0] 24))).trans g1
  have hne : w.heap.size + 1 ≠ w.heap.size := by omega
  obtain ⟨⟨a0, a1, a2, a3, a4⟩, y0, y1, y2, y3, y4⟩ := own_cells B0
  obtain ⟨q0, z0⟩ := B1.at_ (k := 0) rfl
  have BF := (own_st B0 s t k r o).st (p := ⟨w.heap.size + 1, 0, none⟩) hne (.int .i64 0)
  have BG := (own_far B1 hne.symm s t k r o).set 0 (.int .i64 0)
  have XF := Lib.hid ((own_far X1 h1 s t k r o).st (p := ⟨w.heap.size + 1, 0, none⟩) h2 (.int .i64 0))
  obtain ⟨⟨c0, c1, c2, c3, c4⟩, -⟩ := own_cells BF
  obtain ⟨q1, z1⟩ := BG.at_ (k := 0) (v := .int .i64 0) rfl
  have G := Lib.hid ((G0.own (g := w.heap.size) (Nat.le_refl _) s t k r o).st (p := ⟨w.heap.size + 1, 0, none⟩) (Nat.le_succ _) (.int .i64 0))
  clear B0 B1 BF BG g1 G0 X1
  go_wp2_with fail
  refine leaves_cons (f := 67) (args := #[.pointer (some ⟨w.heap.size + 1, 0, none⟩)]) (by simp) (by simp [go_sem]) ?_
  refine (catchO_idle ⟨w.heap.size + 1, 0, none⟩ _).mono ?_
  rintro e u' w'' ⟨rfl, rfl, rfl⟩
  simp [Leaves, settle, results, Try.results50, go_sem, q1, c0, c1, c2, c3, c4]
  exact ⟨G.out, XF.out⟩
end

section
variable {s r : Int} {t k a b c : Bool} {n u o x S R X : Int} {T K v : Bool} {w : World}
set_option maxHeartbeats 4000000 in
theorem Wake_cl {W : World} {g i j h : Nat} (B : Blk W g #[.int .i64 s, .bool t, .bool k, .int .i64 r, .int .i64 o] 23) (D : Blk W i #[.int .i64 u] 3) (E : Blk W j #[.int .i64 x] 3) (H : Blk W h #[.bool false] 4)
    (hc : ∀ W, Calls Try.prog 54 #[ov s t k r o, .int .i64 u, .int .i64 x] W fun e w' => e = .returned (.tuple #[ov S T K R X, .bool v]) ∧ Gr W w') :
    Calls Try.prog 53 #[.pointer (some ⟨g, 0, none⟩), .pointer (some ⟨i, 0, none⟩), .pointer (some ⟨j, 0, none⟩), .pointer (some ⟨h, 0, none⟩)] W fun e w' =>
      e = .returned (ov S T K R X) ∧ But h W w' ∧ Blk w' h #[.bool v] 4 := by
  have HC := fun W => Lib.hid (hc W)
  have hlt := B.lt
  have hlt2 := D.lt
  have hlt3 := E.lt
  have hlt4 := H.lt
  have hne : W.heap.size ≠ h := by omega
  obtain ⟨⟨q0, q1, q2, q3, q4⟩, -⟩ := own_cells B
  obtain ⟨d0, -⟩ := D.at_ (k := 0) rfl
  obtain ⟨f0, -⟩ := E.at_ (k := 0) rfl
  have N1 := Lib.hid (Blk.new W #[.int .i64 0, .bool false, .bool false, .int .i64 0, .int .i64 0] 23)
  have NH := Lib.hid (H.al (.cells #[.int .i64 0, .bool false, .bool false, .int .i64 0, .int .i64 0] 23))
  have G0 := Lib.hid ((Gr.refl W).al (.cells #[.int .i64 0, .bool false, .bool false, .int .i64 0, .int .i64 0] 23))
  clear hc B D E H
  go_enter Try.func53, Try.ntmps53
  go_wp2_with fail
  with_reducible refine (HC _).out.mono ?_
  rintro e w1 ⟨rfl, g1⟩
  have B1 := N1.out.gr g1
  have H1 := NH.out.gr g1
  obtain ⟨⟨e0, e1, e2, e3, e4⟩, y0, y1, y2, y3, y4⟩ := own_cells B1
  obtain ⟨p0, z0⟩ := H1.at_ (k := 0) rfl
  have C1 := (own_st B1 S T K R X).st (p := ⟨h, 0, none⟩) (Ne.symm hne) (.bool v)
  have H2 := (own_far H1 hne S T K R X).set 0 (.bool v)
  have G2 := (((But.of (h := h) (G0.out.trans g1)).own (g := W.heap.size) (Nat.le_refl _) S T K R X).set 0 (.bool v))
  have C1 := Lib.hid C1
  have H2 := Lib.hid H2
  have G2 := Lib.hid G2
  clear g1 B1 H1
  go_upto_region 2 with fail
  clear e0 e1 e2 e3 e4 y0 y1 y2 y3 y4 p0 z0 q0 q1 q2 q3 q4 d0 f0
  generalize ((((((w1.setCell ⟨W.heap.size, 0, none⟩ (.int .i64 S)).setCell ⟨W.heap.size, 1, none⟩ (.bool T)).setCell ⟨W.heap.size, 2, none⟩ (.bool K)).setCell ⟨W.heap.size, 3, none⟩ (.int .i64 R)).setCell ⟨W.heap.size, 4, none⟩ (.int .i64 X)).setCell ⟨h, 0, none⟩ (.bool v)) = W2 at C1 H2 G2 ⊢
  obtain ⟨⟨j0, j1, j2, j3, j4⟩, z0, z1, z2, z3, z4⟩ := own_cells C1.out
  have C2 := own_st C1.out S T K R X
  have HF := Lib.hid (own_far H2.out hne S T K R X)
  have GF := Lib.hid (G2.out.own (g := W.heap.size) (Nat.le_refl _) S T K R X)
  obtain ⟨⟨c0, c1, c2, c3, c4⟩, -⟩ := own_cells C2
  clear C2
  go_wp2_with fail
  exact bodyPost_ret (v := ov S T K R X) (by simp [results, Try.results53, go_sem, c0, c1, c2, c3, c4]) rfl ⟨rfl, GF.out, HF.out⟩
set_option maxHeartbeats 2000000 in
theorem Wake_up {W : World} {g i j h : Nat} {y : Int} (B : Blk W g #[.int .i64 s, .bool t, .bool k, .int .i64 r, .int .i64 o] 23) (D : Blk W i #[.int .i64 u] 3) (E : Blk W j #[.int .i64 x] 3)
    (hc : ∀ W, Calls Try.prog 54 #[ov s t k r o, .int .i64 u, .int .i64 x] W fun e w' => e = .panicked (pan y) ∧ Gr W w') :
    Calls Try.prog 53 #[.pointer (some ⟨g, 0, none⟩), .pointer (some ⟨i, 0, none⟩), .pointer (some ⟨j, 0, none⟩), .pointer (some ⟨h, 0, none⟩)] W fun e w' => e = .panicked (pan y) ∧ Gr W w' := by
  have HC := fun W => Lib.hid (hc W)
  have hlt := B.lt
  have hlt2 := D.lt
  have hlt3 := E.lt
  obtain ⟨⟨q0, q1, q2, q3, q4⟩, -⟩ := own_cells B
  obtain ⟨d0, -⟩ := D.at_ (k := 0) rfl
  obtain ⟨f0, -⟩ := E.at_ (k := 0) rfl
  have G0 := Lib.hid ((Gr.refl W).al (.cells #[.int .i64 0, .bool false, .bool false, .int .i64 0, .int .i64 0] 23))
  clear hc B D E
  go_enter Try.func53, Try.ntmps53
  go_wp2_with fail
  with_reducible refine (HC _).out.mono ?_
  rintro e w1 ⟨rfl, g1⟩
  go_wp2_with fail
  exact ⟨rfl, rfl, G0.out.trans g1⟩
/-- The memory in which what is told is asked. -/
def Laid (w W : World) (s : Int) (t k : Bool) (r o u x : Int) : Prop :=
  Blk W w.heap.size #[.int .i64 s, .bool t, .bool k, .int .i64 r, .int .i64 o] 23 ∧ Blk W (w.heap.size + 1) #[.int .i64 u] 3 ∧ Blk W (w.heap.size + 1 + 1) #[.int .i64 x] 3 ∧
  Blk W (w.heap.size + 1 + 1 + 1) #[.int .i64 0, .bool false, .bool false, .int .i64 0, .int .i64 0] 23 ∧ Blk W (w.heap.size + 1 + 1 + 1 + 1) #[.bool false] 4 ∧ Gr w W
theorem Laid.gr {W W' : World} (h : Laid w W s t k r o u x) (g : Gr W W') : Laid w W' s t k r o u x :=
  ⟨h.1.gr g, h.2.1.gr g, h.2.2.1.gr g, h.2.2.2.1.gr g, h.2.2.2.2.1.gr g, h.2.2.2.2.2.trans g⟩
theorem Laid.mk (w : World) (s : Int) (t k : Bool) (r o u x : Int) :
    Laid w (((((w.alloc (.cells #[.int .i64 s, .bool t, .bool k, .int .i64 r, .int .i64 o] 23)).alloc (.cells #[.int .i64 u] 3)).alloc (.cells #[.int .i64 x] 3)).alloc (.cells #[.int .i64 0, .bool false, .bool false, .int .i64 0, .int .i64 0] 23)).alloc (.cells #[.bool false] 4)) s t k r o u x := by
  have b0 := (((Blk.new w #[.int .i64 s, .bool t, .bool k, .int .i64 r, .int .i64 o] 23).al (.cells #[.int .i64 u] 3)).al (.cells #[.int .i64 x] 3)).al (.cells #[.int .i64 0, .bool false, .bool false, .int .i64 0, .int .i64 0] 23) |>.al (.cells #[.bool false] 4)
  have b1 := ((Blk.new (w.alloc (.cells #[.int .i64 s, .bool t, .bool k, .int .i64 r, .int .i64 o] 23)) #[.int .i64 u] 3).al (.cells #[.int .i64 x] 3)).al (.cells #[.int .i64 0, .bool false, .bool false, .int .i64 0, .int .i64 0] 23) |>.al (.cells #[.bool false] 4)
  have b2 := (Blk.new ((w.alloc (.cells #[.int .i64 s, .bool t, .bool k, .int .i64 r, .int .i64 o] 23)).alloc (.cells #[.int .i64 u] 3)) #[.int .i64 x] 3).al (.cells #[.int .i64 0, .bool false, .bool false, .int .i64 0, .int .i64 0] 23) |>.al (.cells #[.bool false] 4)
  have b3 := (Blk.new (((w.alloc (.cells #[.int .i64 s, .bool t, .bool k, .int .i64 r, .int .i64 o] 23)).alloc (.cells #[.int .i64 u] 3)).alloc (.cells #[.int .i64 x] 3)) #[.int .i64 0, .bool false, .bool false, .int .i64 0, .int .i64 0] 23).al (.cells #[.bool false] 4)
  have b4 := Blk.new ((((w.alloc (.cells #[.int .i64 s, .bool t, .bool k, .int .i64 r, .int .i64 o] 23)).alloc (.cells #[.int .i64 u] 3)).alloc (.cells #[.int .i64 x] 3)).alloc (.cells #[.int .i64 0, .bool false, .bool false, .int .i64 0, .int .i64 0] 23)) #[.bool false] 4
  rw [World.size_alloc] at b1
  rw [World.size_alloc, World.size_alloc] at b2
  rw [World.size_alloc, World.size_alloc, World.size_alloc] at b3
  rw [World.size_alloc, World.size_alloc, World.size_alloc, World.size_alloc] at b4
  exact ⟨b0, b1, b2, b3, b4, (((((Gr.refl w).al _).al _).al _).al _).al _⟩
set_option maxHeartbeats 4000000 in
theorem Wake_ok (hc : ∀ W, Calls Try.prog 54 #[ov s t k r o, .int .i64 u, .int .i64 x] W fun e w' => e = .returned (.tuple #[ov S T K R X, .bool v]) ∧ Gr W w') :
    Calls Try.prog 24 #[ov s t k r o, .int .i64 u, .int .i64 x] w fun e w' => e = .returned (.tuple #[ov S T K R X, .bool v, .int .i64 0]) ∧ Gr w w' := by
  have L0 := Laid.mk w s t k r o u x
  have TT := Lib.hid (toldX_ok (F := 53) (caps := #[.pointer (some ⟨w.heap.size, 0, none⟩), .pointer (some ⟨w.heap.size + 1, 0, none⟩), .pointer (some ⟨w.heap.size + 1 + 1, 0, none⟩), .pointer (some ⟨w.heap.size + 1 + 1 + 1 + 1, 0, none⟩)]) (w := (((((w.alloc (.cells #[.int .i64 s, .bool t, .bool k, .int .i64 r, .int .i64 o] 23)).alloc (.cells #[.int .i64 u] 3)).alloc (.cells #[.int .i64 x] 3)).alloc (.cells #[.int .i64 0, .bool false, .bool false, .int .i64 0, .int .i64 0] 23)).alloc (.cells #[.bool false] 4))) (enters_of Try.func53 (by kernel_rfl) rfl) S T K R X (h := w.heap.size + 1 + 1 + 1 + 1) L0.2.2.2.2.1.lt (fun W G => Wake_cl (L0.gr G).1 (L0.gr G).2.1 (L0.gr G).2.2.1 (L0.gr G).2.2.2.2.1 hc))
  clear hc
  have L0 := Lib.hid L0
  have hmf : ∀ (fn : Fn) (first cap : Array Value) (w : World), (Instr.makeFunc fn first cap).run Try.prog w = .ok (.func fn first cap) w := fun _ _ _ _ => rfl
  go_enter Try.func24, Try.ntmps24
  go_wp2_with fail
  with_reducible refine TT.out.mono ?_
  rintro e w1 ⟨rfl, g1, H1⟩
  have B3 := g1.blk L0.out.2.2.2.1 (by omega)
  have G := Lib.hid (But.gr L0.out.2.2.2.2.2 g1 (by omega))
  have l3 := B3.lt
  have l4 := H1.lt
  obtain ⟨⟨e0, e1, e2, e3, e4⟩, y0, y1, y2, y3, y4⟩ := own_cells B3
  obtain ⟨p0, -⟩ := H1.at_ (k := 0) rfl
  have BF := ((own_st B3 S T K R X).al (.cells #[.int .i64 S, .bool T, .bool K, .int .i64 R, .int .i64 X] 23)).gr ((Gr.refl _).dr)
  have GF := Lib.hid (((own_gr (g := w.heap.size + 1 + 1 + 1) G.out (by omega) S T K R X).al (.cells #[.int .i64 S, .bool T, .bool K, .int .i64 R, .int .i64 X] 23)).dr)
  obtain ⟨⟨c0, c1, c2, c3, c4⟩, -⟩ := own_cells BF
  clear BF B3 H1 g1 TT
  go_wp2_with fail
  go_region
  go_wp2_with fail
  exact bodyPost_ret (v := .tuple #[ov S T K R X, .bool v, .int .i64 0]) (by simp [results, Try.results24, go_sem, c0, c1, c2, c3, c4]) rfl ⟨rfl, GF.out⟩
set_option maxHeartbeats 4000000 in
theorem Wake_no {y : Int} (hc : ∀ W, Calls Try.prog 54 #[ov s t k r o, .int .i64 u, .int .i64 x] W fun e w' => e = .panicked (pan y) ∧ Gr W w') :
    Calls Try.prog 24 #[ov s t k r o, .int .i64 u, .int .i64 x] w fun e w' => e = .returned (.tuple #[ov 0 false false 0 0, .bool false, .int .i64 y]) ∧ Gr w w' := by
  have L0 := Laid.mk w s t k r o u x
  have TT := Lib.hid (toldO_no (F := 53) (caps := #[.pointer (some ⟨w.heap.size, 0, none⟩), .pointer (some ⟨w.heap.size + 1, 0, none⟩), .pointer (some ⟨w.heap.size + 1 + 1, 0, none⟩), .pointer (some ⟨w.heap.size + 1 + 1 + 1 + 1, 0, none⟩)]) (w := (((((w.alloc (.cells #[.int .i64 s, .bool t, .bool k, .int .i64 r, .int .i64 o] 23)).alloc (.cells #[.int .i64 u] 3)).alloc (.cells #[.int .i64 x] 3)).alloc (.cells #[.int .i64 0, .bool false, .bool false, .int .i64 0, .int .i64 0] 23)).alloc (.cells #[.bool false] 4))) (enters_of Try.func53 (by kernel_rfl) rfl) y (fun W G => Wake_up (L0.gr G).1 (L0.gr G).2.1 (L0.gr G).2.2.1 hc))
  clear hc
  have L0 := Lib.hid L0
  have hmf : ∀ (fn : Fn) (first cap : Array Value) (w : World), (Instr.makeFunc fn first cap).run Try.prog w = .ok (.func fn first cap) w := fun _ _ _ _ => rfl
  go_enter Try.func24, Try.ntmps24
  go_wp2_with fail
  with_reducible refine TT.out.mono ?_
  rintro e w1 ⟨rfl, g1⟩
  have L1 := L0.out.gr g1
  have B3 := L1.2.2.2.1
  have H1 := L1.2.2.2.2.1
  have G := Lib.hid L1.2.2.2.2.2
  have l3 := B3.lt
  have l4 := H1.lt
  obtain ⟨⟨e0, e1, e2, e3, e4⟩, y0, y1, y2, y3, y4⟩ := own_cells B3
  obtain ⟨p0, -⟩ := H1.at_ (k := 0) rfl
  have BF := ((own_st B3 0 false false 0 0).al (.cells #[.int .i64 0, .bool false, .bool false, .int .i64 0, .int .i64 0] 23)).gr ((Gr.refl _).dr)
  have GF := Lib.hid (((own_gr (g := w.heap.size + 1 + 1 + 1) G.out (by omega) 0 false false 0 0).al (.cells #[.int .i64 0, .bool false, .bool false, .int .i64 0, .int .i64 0] 23)).dr)
  obtain ⟨⟨c0, c1, c2, c3, c4⟩, -⟩ := own_cells BF
  clear BF B3 H1 g1 TT
  go_wp2_with fail
  go_region
  go_wp2_with fail
  exact bodyPost_ret (v := .tuple #[ov 0 false false 0 0, .bool false, .int .i64 y]) (by simp [results, Try.results24, go_sem, c0, c1, c2, c3, c4]) rfl ⟨rfl, GF.out⟩
end
end P14
end Go.Proofs.Ytddgihbgdlnlbaa
