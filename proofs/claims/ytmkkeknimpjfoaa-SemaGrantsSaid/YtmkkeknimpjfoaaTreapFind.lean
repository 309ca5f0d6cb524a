/-
  Package treap: what Find's and Next's closures do; Find, Next.
-/
import Derived.Test.YtmkkeknimpjfoaaTreapFollow
import Derived.Test.YtmkkeknimpjfoaaTreapShape
import Derived.Test.YtmkkeknimpjfoaaTreapRightFn
namespace Go.Proofs.Ytmkkeknimpjfoaa
open Go.ChangeShapes Go.WideShapes Go.ChangeAt Go.RowKit Go.Shelf
set_option linter.unusedVariables false
set_option linter.unusedSimpArgs false

/-- A world on a way through a tree: the tree's variable, the key's, what is kept. -/
structure FW (w0 : World) (r : Int) (A : Option Addr) (n c tb kb sb : Nat) (x v : Int) (W : World) : Prop where
  gr : Gr w0 W
  b0 : Blk W tb #[.int .i64 r, .slice A n c] 84
  b1 : Blk W kb #[.int .i64 x] 3
  b2 : Blk W sb #[.int .i64 v] 3
  n0 : sb ≠ tb
  n1 : sb ≠ kb
  ge : w0.heap.size ≤ sb
section
variable {w0 W : World} {r : Int} {A : Option Addr} {n c tb kb sb : Nat} {x v : Int} {l : List Nd}
theorem FW.drew (h : FW w0 r A n c tb kb sb x v W) : FW w0 r A n c tb kb sb x v W.drew := ⟨h.gr.dr, h.b0, h.b1, h.b2, h.n0, h.n1, h.ge⟩
theorem FW.drN (h : FW w0 r A n c tb kb sb x v W) (m : Nat) : FW w0 r A n c tb kb sb x v (W.drewN m) := ⟨h.gr.drN m, h.b0, h.b1, h.b2, h.n0, h.n1, h.ge⟩
theorem FW.set (h : FW w0 r A n c tb kb sb x v W) (u : Int) : FW w0 r A n c tb kb sb x u (W.setCell ⟨sb, 0, none⟩ (.int .i64 u)) :=
  ⟨h.gr.st h.ge _, h.b0.st h.n0 _, h.b1.st h.n1 _, by simpa using h.b2.set 0 (.int .i64 u), h.n0, h.n1, h.ge⟩
theorem fw_keeps (hm : NMem w0 A n l) : Keeps (FW w0 r A n c tb kb sb x) tb r A n c l where
  root := fun s W h => (h.b0.at_ (k := 0) rfl).1
  nodes := fun s W h => (h.b0.at_ (k := 1) rfl).1
  mem := fun s W h => hm.gr h.gr
  drew := fun s W h => h.drew

def fdir (x k : Int) : Option Bool := if x = k then none else if x < k then some false else some true
def fupd (x k s : Int) : Int := if x = k then s else IntKind.i64.wrap (s + 1)
def ndir (x k : Int) : Option Bool := if k < x then some true else some false
def nupd (x k s : Int) : Int := if k < x then s else k

set_option maxHeartbeats 2000000 in
theorem find_further {b off : Nat} (hm : NMem w0 (some ⟨b, off, none⟩) n l) : Further 66 #[.pointer (some ⟨kb, 0, none⟩), .pointer (some ⟨sb, 0, none⟩)] (FW w0 r (some ⟨b, off, none⟩) n c tb kb sb x) (fdir x) (fupd x) b off l := by
  intro s W i nd hW hx
  have c0 := (hm.gr hW.gr).cells hx
  obtain ⟨c0, c1, c2⟩ := c0
  have k0 := (hW.b1.at_ (k := 0) rfl).1
  obtain ⟨k1, k2⟩ := hW.b2.at_ (k := 0) rfl
  have HW := Lib.hid hW
  have HM := Lib.hid hm
  have HX := Lib.hid hx
  clear hm hx hW
  obtain ⟨y, p, q⟩ := nd
  dsimp only at *
  show Calls Try.prog 66 #[.pointer (some ⟨b, off + i * 3, none⟩), .pointer (some ⟨kb, 0, none⟩), .pointer (some ⟨sb, 0, none⟩)] W _
  by_cases he : x = y
  · subst he
    rw [show fdir x x = none from if_pos rfl, show fupd x x s = s from if_pos rfl]
    go_enter Try.func66, Try.ntmps66
    go_wp2_with fail
    go_quiet (fail)
    go_wp2_with fail
    go_ret
    exact ⟨rfl, HW.out.drN _⟩
  · have ne : (x == y) = false := beq_eq_false_iff_ne.2 he
    by_cases hlt : x < y
    · rw [show fdir x y = some false from (if_neg he).trans (if_pos hlt), show fupd x y s = IntKind.i64.wrap (s + 1) from if_neg he]
      obtain ⟨u, hu⟩ : ∃ u, IntKind.i64.wrap (s + 1) = u := ⟨_, rfl⟩
      rw [hu]
      go_enter Try.func66, Try.ntmps66
      go_wp2_with fail
      go_quiet (fail)
      go_wp2_with fail
      have W3 := (HW.out.drN nq).set u
      clear c0 c1 c2 k0 k1 k2 hu
      generalize (W.drewN nq).setCell _ _ = V at W3 ⊢
      have c0 := ((HM.out.gr W3.gr).cells HX.out).1
      have k0 := (W3.b1.at_ (k := 0) rfl).1
      have H3 := Lib.hid W3
      clear W3
      dsimp only at c0
      go_quiet (fail)
      go_wp2_with fail
      go_ret
      exact ⟨rfl, H3.out.drN _⟩
    · rw [show fdir x y = some true from (if_neg he).trans (if_neg hlt), show fupd x y s = IntKind.i64.wrap (s + 1) from if_neg he]
      obtain ⟨u, hu⟩ : ∃ u, IntKind.i64.wrap (s + 1) = u := ⟨_, rfl⟩
      rw [hu]
      go_enter Try.func66, Try.ntmps66
      go_wp2_with fail
      go_quiet (fail)
      go_wp2_with fail
      have W3 := (HW.out.drN nq).set u
      clear c0 c1 c2 k0 k1 k2 hu
      generalize (W.drewN nq).setCell _ _ = V at W3 ⊢
      have c0 := ((HM.out.gr W3.gr).cells HX.out).1
      have k0 := (W3.b1.at_ (k := 0) rfl).1
      have H3 := Lib.hid W3
      clear W3
      dsimp only at c0
      go_quiet (fail)
      go_wp2_with fail
      go_ret
      exact ⟨rfl, H3.out.drN _⟩

set_option maxHeartbeats 2000000 in
theorem next_further {b off : Nat} (hm : NMem w0 (some ⟨b, off, none⟩) n l) : Further 59 #[.pointer (some ⟨kb, 0, none⟩), .pointer (some ⟨sb, 0, none⟩)] (FW w0 r (some ⟨b, off, none⟩) n c tb kb sb x) (ndir x) (nupd x) b off l := by
  intro s W i nd hW hx
  have c0 := (hm.gr hW.gr).cells hx
  obtain ⟨c0, c1, c2⟩ := c0
  have k0 := (hW.b1.at_ (k := 0) rfl).1
  obtain ⟨k1, k2⟩ := hW.b2.at_ (k := 0) rfl
  have HW := Lib.hid hW
  clear hm hx hW
  obtain ⟨y, p, q⟩ := nd
  dsimp only at *
  show Calls Try.prog 59 #[.pointer (some ⟨b, off + i * 3, none⟩), .pointer (some ⟨kb, 0, none⟩), .pointer (some ⟨sb, 0, none⟩)] W _
  by_cases hlt : y < x
  · rw [show ndir x y = some true from if_pos hlt, show nupd x y s = s from if_pos hlt]
    go_enter Try.func59, Try.ntmps59
    go_wp2_with fail
    go_quiet (fail)
    go_wp2_with fail
    go_ret
    exact ⟨rfl, HW.out.drN _⟩
  · rw [show ndir x y = some false from if_neg hlt, show nupd x y s = y from if_neg hlt]
    go_enter Try.func59, Try.ntmps59
    go_wp2_with fail
    go_quiet (fail)
    go_wp2_with fail
    go_ret
    exact ⟨rfl, (HW.out.drN _).set y⟩

/- The ways, as lists of keys have them. -/
theorem run_find {b off : Nat} : ∀ {t : T} {lo hi : Int} {pb po : Nat} {s : Int}, Bst t lo hi → 0 ≤ s → s + t.size ≤ 100000 →
    (x ∉ t.inord → (run (fdir x) (fupd x) b off t pb po s).2.1 = .nil) ∧ (x ∈ t.inord → (run (fdir x) (fupd x) b off t pb po s).2.1 ≠ .nil ∧ (run (fdir x) (fupd x) b off t pb po s).2.2 = s + dpt t x)
  | .nil, _, _, _, _, s, _, _, _ => ⟨fun _ => rfl, fun h => by simp [T.inord] at h⟩
  | .node i k L R, lo, hi, pb, po, s, hb, h0, h1 => by
    obtain ⟨b1, b2, b3, b4⟩ := hb
    unfold T.size at h1
    by_cases he : x = k
    · subst he
      rw [run_stop (show fdir x x = none from if_pos rfl), show fupd x x s = s from if_pos rfl]
      exact ⟨fun h => absurd (by simp [T.inord]) h, fun _ => ⟨by simp, by simp [dpt]⟩⟩
    · have hw : fupd x k s = s + 1 := (if_neg he).trans (wrap_id (by omega) (by omega))
      by_cases hlt : x < k
      · rw [run_go (show fdir x k = some false from (if_neg he).trans (if_pos hlt)), hw]
        obtain ⟨g1, g2⟩ := @run_find b off L lo k b (off + i * 3 + side false) (s + 1) b3 (by omega) (by omega)
        have hm : x ∈ (T.node i k L R).inord ↔ x ∈ L.inord := by
          simp only [T.inord, List.mem_append, List.mem_cons]
          refine ⟨fun h => ?_, fun h => .inl h⟩
          rcases h with h | h | h
          · exact h
          · exact absurd h he
          · have := (b4.mem h).1; omega
        refine ⟨fun h => g1 (fun h' => h (hm.2 h')), fun h => ⟨(g2 (hm.1 h)).1, (g2 (hm.1 h)).2.trans ?_⟩⟩
        rw [dpt, if_neg he, if_pos hlt]; omega
      · rw [run_go (show fdir x k = some true from (if_neg he).trans (if_neg hlt)), hw]
        obtain ⟨g1, g2⟩ := @run_find b off R k hi b (off + i * 3 + side true) (s + 1) b4 (by omega) (by omega)
        have hm : x ∈ (T.node i k L R).inord ↔ x ∈ R.inord := by
          simp only [T.inord, List.mem_append, List.mem_cons]
          refine ⟨fun h => ?_, fun h => .inr (.inr h)⟩
          rcases h with h | h | h
          · have := (b3.mem h).2; omega
          · exact absurd h he
          · exact h
        refine ⟨fun h => g1 (fun h' => h (hm.2 h')), fun h => ⟨(g2 (hm.1 h)).1, (g2 (hm.1 h)).2.trans ?_⟩⟩
        rw [dpt, if_neg he, if_neg hlt]; omega
theorem run_next {b off : Nat} : ∀ {t : T} {pb po : Nat} {s : Int}, (run (ndir x) (nupd x) b off t pb po s).2.2 = nx t x s
  | .nil, _, _, _ => rfl
  | .node i k L R, pb, po, s => by
    by_cases hlt : k < x
    · rw [run_go (show ndir x k = some true from if_pos hlt), show nupd x k s = s from if_pos hlt, nx, if_pos hlt]
      exact run_next
    · rw [run_go (show ndir x k = some false from if_neg hlt), show nupd x k s = k from if_neg hlt, nx, if_neg hlt]
      exact run_next
end
end Go.Proofs.Ytmkkeknimpjfoaa
