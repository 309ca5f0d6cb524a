/-
  Package treap: Right.
-/
import Derived.Test.YtmkkeknimpjfoaaTreap
import Derived.IntWalk
namespace Go.Proofs.Ytmkkeknimpjfoaa
open Go.ChangeShapes Go.WideShapes Go.ChangeAt Go.RowKit
set_option linter.unusedVariables false
set_option linter.unusedSimpArgs false

/-- The closure's captured variables lie at s, s + 1, s + 2. -/
def SF (s : Nat) : Value := .func (.func 62) #[] #[.pointer (some ⟨s, 0, none⟩), .pointer (some ⟨s + 1, 0, none⟩), .pointer (some ⟨s + 2, 0, none⟩)]
/-- A world within Right: so many nodes came. -/
structure RW (w0 : World) (r : Int) (A : Option Addr) (n c : Nat) (k : Int) (W : World) : Prop where
  gr : Gr w0 W
  b0 : Blk W w0.heap.size #[.int .i64 r, .slice A n c] 84
  b1 : Blk W (w0.heap.size + 1) #[.int .i64 k] 3
  b2 : Blk W (w0.heap.size + 2) #[SF w0.heap.size] 100
section
variable {w0 W W' : World} {r : Int} {A : Option Addr} {n c : Nat} {k : Int} {l : List Nd}
theorem RW.dr (h : RW w0 r A n c k W) : RW w0 r A n c k W.drew := ⟨h.gr.dr, h.b0, h.b1, h.b2⟩
theorem RW.drN (h : RW w0 r A n c k W) (m : Nat) : RW w0 r A n c k (W.drewN m) := ⟨h.gr.drN m, h.b0, h.b1, h.b2⟩
theorem RW.come (h : RW w0 r A n c k W) (j : Int) : RW w0 r A n c j (W.setCell ⟨w0.heap.size + 1, 0, none⟩ (.int .i64 j)) :=
  ⟨h.gr.st (by show w0.heap.size ≤ w0.heap.size + 1; omega) _, h.b0.st (by show w0.heap.size + 1 ≠ w0.heap.size; omega) _, by simpa using h.b1.set 0 (.int .i64 j), h.b2.st (by show w0.heap.size + 1 ≠ w0.heap.size + 2; omega) _⟩

/-- What the closure loads. -/
def Loads (s i b off : Nat) (n c : Nat) (nd : Nd) (W : World) : Prop :=
  W.cell? ⟨s, 1, none⟩ = some (.slice (some ⟨b, off, none⟩) n c) ∧ W.cell? ⟨s + 2, 0, none⟩ = some (.func (.func 62) #[] #[.pointer (some ⟨s, 0, none⟩), .pointer (some ⟨s + 1, 0, none⟩), .pointer (some ⟨s + 2, 0, none⟩)]) ∧
    W.cell? ⟨b, off + i * 3, none⟩ = some (.int .i64 nd.key) ∧ W.cell? ⟨b, off + i * 3 + 1, none⟩ = some (.int .i64 nd.left) ∧ W.cell? ⟨b, off + i * 3 + 2, none⟩ = some (.int .i64 nd.right)
theorem RW.loads {b off i : Nat} {nd : Nd} (hR : RW w0 r (some ⟨b, off, none⟩) n c k W) (hm : NMem w0 (some ⟨b, off, none⟩) n l) (hx : l[i]? = some nd) : Loads w0.heap.size i b off n c nd W := by
  have hi : i < n := by have := (List.getElem?_eq_some_iff.1 hx).1; have := hm.1; omega
  obtain ⟨b', off', nd', e, hbl, hx', i0, i1, i2, d0, d1, d2⟩ := (hm.gr hR.gr).at_ hi
  cases e
  rw [hx] at hx'
  cases hx'
  exact ⟨(hR.b0.at_ (k := 1) rfl).1, (hR.b2.at_ (k := 0) rfl).1, d0, d1, d2⟩

set_option maxHeartbeats 4000000 in
theorem sound_is (hm : NMem w0 A n l) (hn : n ≤ 64) {a lo hi w : Int} {b : Bool} {q : Nat} (hs : Snd l a lo hi w b q) : ∀ (W : World) (k : Int), RW w0 r A n c k W → 0 ≤ k → k + q ≤ 1000 → -1 ≤ lo → hi ≤ 4294967296 →
    Calls Try.prog 62 #[.int .i64 a, .int .i64 lo, .int .i64 hi, .int .i64 w, .pointer (some ⟨w0.heap.size, 0, none⟩), .pointer (some ⟨w0.heap.size + 1, 0, none⟩), .pointer (some ⟨w0.heap.size + 2, 0, none⟩)] W
      fun e w' => e = .returned (.bool b) ∧ RW w0 r A n c (k + q) w' := by
  have hlen := hm.1
  induction hs with
  | nil lo hi w =>
    intro W k hR hk hq hlo hhi
    have HR := Lib.hid hR
    clear hm hR
    go_enter Try.func62, Try.ntmps62
    go_wp2_with fail
    go_ret
    exact ⟨rfl, by simpa using HR.out⟩
  | out a lo hi w h1 h2 =>
    intro W k hR hk hq hlo hhi
    have c1 := (hR.b0.at_ (k := 1) rfl).1
    have HR := Lib.hid hR
    have ne : (a == -1) = false := beq_eq_false_iff_ne.2 h1
    rw [hlen] at h2
    clear hm hR
    by_cases h3 : a < 0
    · go_enter Try.func62, Try.ntmps62
      go_wp2_with fail
      go_ret
      exact ⟨rfl, by simpa using HR.out⟩
    · have h4 : (n : Int) ≤ a := by omega
      clear h2
      go_enter Try.func62, Try.ntmps62
      go_wp2_with fail
      go_ret
      exact ⟨rfl, by simpa using HR.out⟩
  | no i nd lo hi w hx hno =>
    intro W k hR hk hq hlo hhi
    have c1 := (hR.b0.at_ (k := 1) rfl).1
    have hi1 : i < n := by have := (List.getElem?_eq_some_iff.1 hx).1; omega
    obtain ⟨b, off, nd', rfl, hbl, hx', i0, i1, i2, d0, d1, d2⟩ := (hm.gr hR.gr).at_ hi1
    rw [hx] at hx'
    cases hx'
    obtain ⟨x, y, z⟩ := nd
    have HR := Lib.hid hR
    have g0 : ¬ ((i : Int) < 0) := by omega
    have g1 : (i : Int) < (n : Int) := by omega
    have g2 : ((i : Int) == -1) = false := beq_eq_false_iff_ne.2 (by omega)
    obtain ⟨p, hp⟩ : ∃ p, prf x = p := ⟨_, rfl⟩
    have hC := fun W => Pri_is x W
    rw [hp] at hC
    have hno : x ≤ lo ∨ (¬ x ≤ lo ∧ hi ≤ x) ∨ (¬ x ≤ lo ∧ ¬ hi ≤ x ∧ w ≤ p) := by
      dsimp only at hno
      have hpk : 0 ≤ x → x ≤ 4294967295 → p = pri x := fun h h' => by rw [← hp]; exact prf_key ⟨h, h'⟩
      by_cases e1 : x ≤ lo
      · exact .inl e1
      · by_cases e2 : hi ≤ x
        · exact .inr (.inl ⟨e1, e2⟩)
        · refine .inr (.inr ⟨e1, e2, ?_⟩)
          rw [hpk (by omega) (by omega)]
          omega
    have kC := Lib.hid hC
    clear hm hR hx hC hp
    dsimp only at *
    rcases hno with h | ⟨h, h'⟩ | ⟨h, h', h''⟩
    all_goals (
      go_enter Try.func62, Try.ntmps62
      go_wp2_with fail
      go_quiet ((go_at_call 56; with_reducible exact Calls.quiet_of_same (kC.out _)))
      go_wp2_with fail
      go_ret
      exact ⟨rfl, by simpa using HR.out.drN _⟩)
  | left i nd lo hi w q hx h1 h2 h3 hs ih =>
    intro W k hR hk hq hlo hhi
    obtain ⟨x, y, z⟩ := nd
    dsimp only at *
    have hIK : IsKey x := by unfold IsKey; omega
    have c1 := (hR.b0.at_ (k := 1) rfl).1
    obtain ⟨c2, c3⟩ := hR.b1.at_ (k := 0) rfl
    have hi1 : i < n := by have := (List.getElem?_eq_some_iff.1 hx).1; omega
    obtain ⟨bb, off, nd', rfl, hbl, hx', i0, i1, i2, d0, d1, d2⟩ := (hm.gr hR.gr).at_ hi1
    rw [hx] at hx'
    cases hx'
    dsimp only at *
    have g0 : ¬ ((i : Int) < 0) := by omega
    have g1 : (i : Int) < (n : Int) := by omega
    have g2 : ((i : Int) == -1) = false := beq_eq_false_iff_ne.2 (by omega)
    have g3 : ¬ x ≤ lo := by omega
    have g4 : ¬ hi ≤ x := by omega
    have g5 : ¬ w ≤ pri x := by omega
    have hC := fun W => Pri_is x W
    rw [prf_key hIK] at hC
    generalize pri x = p at *
    have kC := Lib.hid hC
    have HI := Lib.hid ih
    have HR := Lib.hid hR
    have HM := Lib.hid hm
    have e1 : IntKind.i64.wrap (k + 1) = k + 1 := IntWalk.i64_in _ (by omega)
    have EQ := Lib.hid (show k + ((q + 1 : Nat) : Int) = k + 1 + (q : Int) from by omega)
    have b1 := Lib.hid (show 0 ≤ k + 1 from by omega)
    have b2 := Lib.hid (show k + 1 + (q : Int) ≤ 1000 from by omega)
    have b3 := Lib.hid hlo
    have b4 := Lib.hid (show x ≤ 4294967296 from by omega)
    have HX := Lib.hid hx
    clear hm hR hx hC ih hs hq hk h1 h2 h3 hIK
    go_enter Try.func62, Try.ntmps62
    go_wp2_with fail
    go_quiet ((go_at_call 56; with_reducible exact Calls.quiet_of_same (kC.out _)))
    clear d0
    go_wp2_with fail
    have R1 := (HR.out.drN nq).come (k + 1)
    clear c1 c2 c3 d1 d2 hbl
    generalize (W.drewN nq).setCell _ _ = W1 at R1 ⊢
    refine wp_region_held_drew (S := fun w' => w'.cell? ⟨w0.heap.size, 1, none⟩ = some (.slice (some ⟨bb, off, none⟩) n c) ∧ w'.cell? ⟨w0.heap.size + 2, 0, none⟩ = some (.func (.func 62) #[] #[.pointer (some ⟨w0.heap.size, 0, none⟩), .pointer (some ⟨w0.heap.size + 1, 0, none⟩), .pointer (some ⟨w0.heap.size + 2, 0, none⟩)]) ∧
      w'.cell? ⟨bb, off + i * 3, none⟩ = some (.int .i64 x) ∧ w'.cell? ⟨bb, off + i * 3 + 1, none⟩ = some (.int .i64 y) ∧ w'.cell? ⟨bb, off + i * 3 + 2, none⟩ = some (.int .i64 z)) (by kernel_rfl) (R1.dr.loads HM.out HX.out) (fun hHeld => ?_)
    refine wpAnyH_take (i := 0) (oi := ⟨some 53, _, _, _, _, _⟩) (v := ?_) rfl (by kernel_rfl) (by kernel_rfl) (by kernel_rfl) (fun _ _ _ h => h) (Or.inl ⟨by rfl, ?_⟩) (by assumption) ?_
    rotate_left 1
    · (intro w hSw; (try dsimp only at hSw); go_simp; (try with_reducible rfl))
    try simp only [Act.put, List.setIfInBounds_toArray, List.set_cons_zero, List.set_cons_succ]
    refine wpAnyH_take (i := 1) (oi := ⟨some 54, _, _, _, _, _⟩) (v := ?_) rfl (by kernel_rfl) (by kernel_rfl) (by kernel_rfl) (fun _ _ _ h => h) (Or.inl ⟨by rfl, ?_⟩) (by assumption) ?_
    rotate_left 1
    · (intro w hSw; (try dsimp only at hSw); go_simp; (try with_reducible rfl))
    try simp only [Act.put, List.setIfInBounds_toArray, List.set_cons_zero, List.set_cons_succ]
    refine wpAnyH_take (i := 2) (oi := ⟨some 55, _, _, _, _, _⟩) (v := ?_) rfl (by kernel_rfl) (by kernel_rfl) (by kernel_rfl) (fun _ _ _ h => h) (Or.inl ⟨by rfl, ?_⟩) (by assumption) ?_
    rotate_left 1
    · (intro w hSw; (try dsimp only at hSw); go_simp; (try with_reducible rfl))
    try simp only [Act.put, List.setIfInBounds_toArray, List.set_cons_zero, List.set_cons_succ]
    refine wpAnyH_take (i := 3) (oi := ⟨some 56, _, _, _, _, _⟩) (v := ?_) rfl (by kernel_rfl) (by kernel_rfl) (by kernel_rfl) (fun _ _ _ h => h) (Or.inl ⟨by rfl, ?_⟩) (by assumption) ?_
    rotate_left 1
    · (intro w hSw; (try dsimp only at hSw); go_simp; (try with_reducible rfl))
    try simp only [Act.put, List.setIfInBounds_toArray, List.set_cons_zero, List.set_cons_succ]
    refine wpAnyH_take (i := 4) (oi := ⟨some 57, _, _, _, _, _⟩) (v := ?_) rfl (by kernel_rfl) (by kernel_rfl) (by kernel_rfl) (fun _ _ _ h => h) (Or.inl ⟨by rfl, ?_⟩) (by assumption) ?_
    rotate_left 1
    · (intro w hSw; (try dsimp only at hSw); go_simp; (try with_reducible rfl))
    try simp only [Act.put, List.setIfInBounds_toArray, List.set_cons_zero, List.set_cons_succ]
    refine wpAnyH_take (i := 5) (oi := ⟨some 58, _, _, _, _, _⟩) (v := ?_) rfl (by kernel_rfl) (by kernel_rfl) (by kernel_rfl) (fun _ _ _ h => h) (Or.inl ⟨by rfl, ?_⟩) (by assumption) ?_
    rotate_left 1
    · (intro w hSw; (try dsimp only at hSw); go_simp; (try with_reducible rfl))
    try simp only [Act.put, List.setIfInBounds_toArray, List.set_cons_zero, List.set_cons_succ]
    refine wpAnyH_take (i := 6) (oi := ⟨some 59, _, _, _, _, _⟩) (v := ?_) rfl (by kernel_rfl) (by kernel_rfl) (by kernel_rfl) (fun _ _ _ h => h) (Or.inl ⟨by rfl, ?_⟩) (by assumption) ?_
    rotate_left 1
    · (intro w hSw; (try dsimp only at hSw); go_simp; (try with_reducible rfl))
    try simp only [Act.put, List.setIfInBounds_toArray, List.set_cons_zero, List.set_cons_succ]
    refine wpAnyH_take (i := 7) (oi := ⟨some 60, _, _, _, _, _⟩) (v := ?_) rfl (by kernel_rfl) (by kernel_rfl) (by kernel_rfl) (fun _ _ _ h => h) (Or.inl ⟨by rfl, ?_⟩) (by assumption) ?_
    rotate_left 1
    · (intro w hSw; (try dsimp only at hSw); go_simp; (try with_reducible rfl))
    try simp only [Act.put, List.setIfInBounds_toArray, List.set_cons_zero, List.set_cons_succ]
    refine wpAnyH_take (i := 8) (oi := ⟨some 61, _, _, _, _, _⟩) (v := ?_) rfl (by kernel_rfl) (by kernel_rfl) (by kernel_rfl) (fun _ _ _ h => h) (Or.inl ⟨by rfl, ?_⟩) (by assumption) ?_
    rotate_left 1
    · (intro w hSw; (try dsimp only at hSw); go_simp; (try with_reducible rfl))
    try simp only [Act.put, List.setIfInBounds_toArray, List.set_cons_zero, List.set_cons_succ]
    refine wpAnyH_take (i := 9) (oi := ⟨some 62, _, _, _, _, _⟩) (v := ?_) rfl (by kernel_rfl) (by kernel_rfl) (by kernel_rfl) (fun _ _ _ h => h) (Or.inl ⟨by rfl, ?_⟩) (by assumption) ?_
    rotate_left 1
    · (intro w hSw; (try dsimp only at hSw); go_simp; (try with_reducible rfl))
    try simp only [Act.put, List.setIfInBounds_toArray, List.set_cons_zero, List.set_cons_succ]
    refine wpAnyH_ready (rs := [10]) (by kernel_rfl) (by simp) ?_
    refine AllReadyH.cons (o := ⟨some 63, _, _, _, _, _⟩) rfl (fun K hK => ?_) AllReadyH.nil
    go_simp
    go_at_call 62
    with_reducible refine (HI.out _ _ R1.dr b1.out b2.out b3.out b4.out).mono ?_
    rintro e w2 ⟨rfl, hb2⟩
    go_wp2_with fail
    refine hK.out _ _ (hb2.loads HM.out HX.out) (fun hHeld2 => ?_)
    clear hK K hHeld
    try simp only [Act.put, List.setIfInBounds_toArray, List.set_cons_zero, List.set_cons_succ]
    refine wpAnyH_take (i := 11) (oi := ⟨some 64, _, _, _, _, _⟩) (v := ?_) rfl (by kernel_rfl) (by kernel_rfl) (by kernel_rfl) (fun _ _ _ h => h) (Or.inl ⟨by rfl, ?_⟩) (by assumption) ?_
    rotate_left 1
    · (intro w hSw; (try dsimp only at hSw); go_simp; (try with_reducible rfl))
    try simp only [Act.put, List.setIfInBounds_toArray, List.set_cons_zero, List.set_cons_succ]
    refine wpAnyH_take (i := 12) (oi := ⟨some 65, _, _, _, _, _⟩) (v := undef) rfl (by kernel_rfl) (by kernel_rfl) (by kernel_rfl) (fun _ _ _ h => h) (Or.inr ⟨by rfl, rfl⟩) (by assumption) ?_
    try simp only [Act.put, List.setIfInBounds_toArray, List.set_cons_zero, List.set_cons_succ]
    refine wpAnyH_take (i := 13) (oi := ⟨some 66, _, _, _, _, _⟩) (v := undef) rfl (by kernel_rfl) (by kernel_rfl) (by kernel_rfl) (fun _ _ _ h => h) (Or.inr ⟨by rfl, rfl⟩) (by assumption) ?_
    try simp only [Act.put, List.setIfInBounds_toArray, List.set_cons_zero, List.set_cons_succ]
    refine wpAnyH_take (i := 14) (oi := ⟨some 67, _, _, _, _, _⟩) (v := undef) rfl (by kernel_rfl) (by kernel_rfl) (by kernel_rfl) (fun _ _ _ h => h) (Or.inr ⟨by rfl, rfl⟩) (by assumption) ?_
    try simp only [Act.put, List.setIfInBounds_toArray, List.set_cons_zero, List.set_cons_succ]
    refine wpAnyH_take (i := 15) (oi := ⟨some 68, _, _, _, _, _⟩) (v := undef) rfl (by kernel_rfl) (by kernel_rfl) (by kernel_rfl) (fun _ _ _ h => h) (Or.inr ⟨by rfl, rfl⟩) (by assumption) ?_
    try simp only [Act.put, List.setIfInBounds_toArray, List.set_cons_zero, List.set_cons_succ]
    refine wpAnyH_take (i := 16) (oi := ⟨some 69, _, _, _, _, _⟩) (v := undef) rfl (by kernel_rfl) (by kernel_rfl) (by kernel_rfl) (fun _ _ _ h => h) (Or.inr ⟨by rfl, rfl⟩) (by assumption) ?_
    try simp only [Act.put, List.setIfInBounds_toArray, List.set_cons_zero, List.set_cons_succ]
    refine wpAnyH_take (i := 17) (oi := ⟨some 70, _, _, _, _, _⟩) (v := undef) rfl (by kernel_rfl) (by kernel_rfl) (by kernel_rfl) (fun _ _ _ h => h) (Or.inr ⟨by rfl, rfl⟩) (by assumption) ?_
    try simp only [Act.put, List.setIfInBounds_toArray, List.set_cons_zero, List.set_cons_succ]
    refine wpAnyH_take (i := 18) (oi := ⟨some 71, _, _, _, _, _⟩) (v := undef) rfl (by kernel_rfl) (by kernel_rfl) (by kernel_rfl) (fun _ _ _ h => h) (Or.inr ⟨by rfl, rfl⟩) (by assumption) ?_
    try simp only [Act.put, List.setIfInBounds_toArray, List.set_cons_zero, List.set_cons_succ]
    refine wpAnyH_take (i := 19) (oi := ⟨some 72, _, _, _, _, _⟩) (v := undef) rfl (by kernel_rfl) (by kernel_rfl) (by kernel_rfl) (fun _ _ _ h => h) (Or.inr ⟨by rfl, rfl⟩) (by assumption) ?_
    try simp only [Act.put, List.setIfInBounds_toArray, List.set_cons_zero, List.set_cons_succ]
    refine wpAnyH_take (i := 20) (oi := ⟨some 73, _, _, _, _, _⟩) (v := undef) rfl (by kernel_rfl) (by kernel_rfl) (by kernel_rfl) (fun _ _ _ h => h) (Or.inr ⟨by rfl, rfl⟩) (by assumption) ?_
    try simp only [Act.put, List.setIfInBounds_toArray, List.set_cons_zero, List.set_cons_succ]
    refine wpAnyH_take (i := 21) (oi := ⟨some 74, _, _, _, _, _⟩) (v := undef) rfl (by kernel_rfl) (by kernel_rfl) (by kernel_rfl) (fun _ _ _ h => h) (Or.inr ⟨by rfl, rfl⟩) (by assumption) ?_
    try simp only [Act.put, List.setIfInBounds_toArray, List.set_cons_zero, List.set_cons_succ]
    refine wpAnyH_take (i := 22) (oi := ⟨some 75, _, _, _, _, _⟩) (v := undef) rfl (by kernel_rfl) (by kernel_rfl) (by kernel_rfl) (fun _ _ _ h => h) (Or.inr ⟨by rfl, rfl⟩) (by assumption) ?_
    try simp only [Act.put, List.setIfInBounds_toArray, List.set_cons_zero, List.set_cons_succ]
    refine wpAnyH_take (i := 23) (oi := ⟨some 76, _, _, _, _, _⟩) (v := ?_) rfl (by kernel_rfl) (by kernel_rfl) (by kernel_rfl) (fun _ _ _ h => h) (Or.inl ⟨by rfl, ?_⟩) (by assumption) ?_
    rotate_left 1
    · (intro w hSw; (try dsimp only at hSw); go_simp; (try with_reducible rfl))
    try simp only [Act.put, List.setIfInBounds_toArray, List.set_cons_zero, List.set_cons_succ]
    refine wpAnyH_take (i := 24) (oi := ⟨some 11, _, _, _, _, _⟩) (v := ?_) rfl (by kernel_rfl) (by kernel_rfl) (by kernel_rfl) (fun _ _ _ h => h) (Or.inl ⟨by rfl, ?_⟩) (by assumption) ?_
    rotate_left 1
    · (intro w hSw; (try dsimp only at hSw); go_simp; (try with_reducible rfl))
    try simp only [Act.put, List.setIfInBounds_toArray, List.set_cons_zero, List.set_cons_succ]
    refine wpAnyH_done (by kernel_rfl) ?_ _
    go_wp2_with fail
    go_ret
    rw [EQ.out]
    exact ⟨rfl, hb2⟩
  | both i nd lo hi w b q u hx h1 h2 h3 hs hs' ih ih' =>
    intro W k hR hk hq hlo hhi
    obtain ⟨x, y, z⟩ := nd
    dsimp only at *
    have hIK : IsKey x := by unfold IsKey; omega
    have c1 := (hR.b0.at_ (k := 1) rfl).1
    obtain ⟨c2, c3⟩ := hR.b1.at_ (k := 0) rfl
    have hi1 : i < n := by have := (List.getElem?_eq_some_iff.1 hx).1; omega
    obtain ⟨bb, off, nd', rfl, hbl, hx', i0, i1, i2, d0, d1, d2⟩ := (hm.gr hR.gr).at_ hi1
    rw [hx] at hx'
    cases hx'
    dsimp only at *
    have g0 : ¬ ((i : Int) < 0) := by omega
    have g1 : (i : Int) < (n : Int) := by omega
    have g2 : ((i : Int) == -1) = false := beq_eq_false_iff_ne.2 (by omega)
    have g3 : ¬ x ≤ lo := by omega
    have g4 : ¬ hi ≤ x := by omega
    have g5 : ¬ w ≤ pri x := by omega
    have hC := fun W => Pri_is x W
    rw [prf_key hIK] at hC
    generalize pri x = p at *
    have kC := Lib.hid hC
    have HI := Lib.hid ih
    have HI2 := Lib.hid ih'
    have HR := Lib.hid hR
    have HM := Lib.hid hm
    have e1 : IntKind.i64.wrap (k + 1) = k + 1 := IntWalk.i64_in _ (by omega)
    have EQ := Lib.hid (show k + ((q + u + 1 : Nat) : Int) = k + 1 + (q : Int) + (u : Int) from by omega)
    have b1 := Lib.hid (show 0 ≤ k + 1 from by omega)
    have b2 := Lib.hid (show k + 1 + (q : Int) ≤ 1000 from by omega)
    have b3 := Lib.hid hlo
    have b5 := Lib.hid (show 0 ≤ k + 1 + (q : Int) from by omega)
    have b6 := Lib.hid (show k + 1 + (q : Int) + (u : Int) ≤ 1000 from by omega)
    have b7 := Lib.hid (show -1 ≤ x from by omega)
    have b8 := Lib.hid hhi
    have b4 := Lib.hid (show x ≤ 4294967296 from by omega)
    have HX := Lib.hid hx
    clear hm hR hx hC ih ih' hs hs' hq hk h1 h2 h3 hIK
    go_enter Try.func62, Try.ntmps62
    go_wp2_with fail
    go_quiet ((go_at_call 56; with_reducible exact Calls.quiet_of_same (kC.out _)))
    clear d0
    go_wp2_with fail
    have R1 := (HR.out.drN nq).come (k + 1)
    clear c1 c2 c3 d1 d2 hbl
    generalize (W.drewN nq).setCell _ _ = W1 at R1 ⊢
    refine wp_region_held_drew (S := fun w' => w'.cell? ⟨w0.heap.size, 1, none⟩ = some (.slice (some ⟨bb, off, none⟩) n c) ∧ w'.cell? ⟨w0.heap.size + 2, 0, none⟩ = some (.func (.func 62) #[] #[.pointer (some ⟨w0.heap.size, 0, none⟩), .pointer (some ⟨w0.heap.size + 1, 0, none⟩), .pointer (some ⟨w0.heap.size + 2, 0, none⟩)]) ∧
      w'.cell? ⟨bb, off + i * 3, none⟩ = some (.int .i64 x) ∧ w'.cell? ⟨bb, off + i * 3 + 1, none⟩ = some (.int .i64 y) ∧ w'.cell? ⟨bb, off + i * 3 + 2, none⟩ = some (.int .i64 z)) (by kernel_rfl) (R1.dr.loads HM.out HX.out) (fun hHeld => ?_)
    refine wpAnyH_take (i := 0) (oi := ⟨some 53, _, _, _, _, _⟩) (v := ?_) rfl (by kernel_rfl) (by kernel_rfl) (by kernel_rfl) (fun _ _ _ h => h) (Or.inl ⟨by rfl, ?_⟩) (by assumption) ?_
    rotate_left 1
    · (intro w hSw; (try dsimp only at hSw); go_simp; (try with_reducible rfl))
    try simp only [Act.put, List.setIfInBounds_toArray, List.set_cons_zero, List.set_cons_succ]
    refine wpAnyH_take (i := 1) (oi := ⟨some 54, _, _, _, _, _⟩) (v := ?_) rfl (by kernel_rfl) (by kernel_rfl) (by kernel_rfl) (fun _ _ _ h => h) (Or.inl ⟨by rfl, ?_⟩) (by assumption) ?_
    rotate_left 1
    · (intro w hSw; (try dsimp only at hSw); go_simp; (try with_reducible rfl))
    try simp only [Act.put, List.setIfInBounds_toArray, List.set_cons_zero, List.set_cons_succ]
    refine wpAnyH_take (i := 2) (oi := ⟨some 55, _, _, _, _, _⟩) (v := ?_) rfl (by kernel_rfl) (by kernel_rfl) (by kernel_rfl) (fun _ _ _ h => h) (Or.inl ⟨by rfl, ?_⟩) (by assumption) ?_
    rotate_left 1
    · (intro w hSw; (try dsimp only at hSw); go_simp; (try with_reducible rfl))
    try simp only [Act.put, List.setIfInBounds_toArray, List.set_cons_zero, List.set_cons_succ]
    refine wpAnyH_take (i := 3) (oi := ⟨some 56, _, _, _, _, _⟩) (v := ?_) rfl (by kernel_rfl) (by kernel_rfl) (by kernel_rfl) (fun _ _ _ h => h) (Or.inl ⟨by rfl, ?_⟩) (by assumption) ?_
    rotate_left 1
    · (intro w hSw; (try dsimp only at hSw); go_simp; (try with_reducible rfl))
    try simp only [Act.put, List.setIfInBounds_toArray, List.set_cons_zero, List.set_cons_succ]
    refine wpAnyH_take (i := 4) (oi := ⟨some 57, _, _, _, _, _⟩) (v := ?_) rfl (by kernel_rfl) (by kernel_rfl) (by kernel_rfl) (fun _ _ _ h => h) (Or.inl ⟨by rfl, ?_⟩) (by assumption) ?_
    rotate_left 1
    · (intro w hSw; (try dsimp only at hSw); go_simp; (try with_reducible rfl))
    try simp only [Act.put, List.setIfInBounds_toArray, List.set_cons_zero, List.set_cons_succ]
    refine wpAnyH_take (i := 5) (oi := ⟨some 58, _, _, _, _, _⟩) (v := ?_) rfl (by kernel_rfl) (by kernel_rfl) (by kernel_rfl) (fun _ _ _ h => h) (Or.inl ⟨by rfl, ?_⟩) (by assumption) ?_
    rotate_left 1
    · (intro w hSw; (try dsimp only at hSw); go_simp; (try with_reducible rfl))
    try simp only [Act.put, List.setIfInBounds_toArray, List.set_cons_zero, List.set_cons_succ]
    refine wpAnyH_take (i := 6) (oi := ⟨some 59, _, _, _, _, _⟩) (v := ?_) rfl (by kernel_rfl) (by kernel_rfl) (by kernel_rfl) (fun _ _ _ h => h) (Or.inl ⟨by rfl, ?_⟩) (by assumption) ?_
    rotate_left 1
    · (intro w hSw; (try dsimp only at hSw); go_simp; (try with_reducible rfl))
    try simp only [Act.put, List.setIfInBounds_toArray, List.set_cons_zero, List.set_cons_succ]
    refine wpAnyH_take (i := 7) (oi := ⟨some 60, _, _, _, _, _⟩) (v := ?_) rfl (by kernel_rfl) (by kernel_rfl) (by kernel_rfl) (fun _ _ _ h => h) (Or.inl ⟨by rfl, ?_⟩) (by assumption) ?_
    rotate_left 1
    · (intro w hSw; (try dsimp only at hSw); go_simp; (try with_reducible rfl))
    try simp only [Act.put, List.setIfInBounds_toArray, List.set_cons_zero, List.set_cons_succ]
    refine wpAnyH_take (i := 8) (oi := ⟨some 61, _, _, _, _, _⟩) (v := ?_) rfl (by kernel_rfl) (by kernel_rfl) (by kernel_rfl) (fun _ _ _ h => h) (Or.inl ⟨by rfl, ?_⟩) (by assumption) ?_
    rotate_left 1
    · (intro w hSw; (try dsimp only at hSw); go_simp; (try with_reducible rfl))
    try simp only [Act.put, List.setIfInBounds_toArray, List.set_cons_zero, List.set_cons_succ]
    refine wpAnyH_take (i := 9) (oi := ⟨some 62, _, _, _, _, _⟩) (v := ?_) rfl (by kernel_rfl) (by kernel_rfl) (by kernel_rfl) (fun _ _ _ h => h) (Or.inl ⟨by rfl, ?_⟩) (by assumption) ?_
    rotate_left 1
    · (intro w hSw; (try dsimp only at hSw); go_simp; (try with_reducible rfl))
    try simp only [Act.put, List.setIfInBounds_toArray, List.set_cons_zero, List.set_cons_succ]
    refine wpAnyH_ready (rs := [10]) (by kernel_rfl) (by simp) ?_
    refine AllReadyH.cons (o := ⟨some 63, _, _, _, _, _⟩) rfl (fun K hK => ?_) AllReadyH.nil
    go_simp
    go_at_call 62
    with_reducible refine (HI.out _ _ R1.dr b1.out b2.out b3.out b4.out).mono ?_
    rintro e w2 ⟨rfl, hb2⟩
    go_wp2_with fail
    refine hK.out _ _ (hb2.loads HM.out HX.out) (fun hHeld2 => ?_)
    clear hK K hHeld
    try simp only [Act.put, List.setIfInBounds_toArray, List.set_cons_zero, List.set_cons_succ]
    refine wpAnyH_take (i := 11) (oi := ⟨some 64, _, _, _, _, _⟩) (v := ?_) rfl (by kernel_rfl) (by kernel_rfl) (by kernel_rfl) (fun _ _ _ h => h) (Or.inl ⟨by rfl, ?_⟩) (by assumption) ?_
    rotate_left 1
    · (intro w hSw; (try dsimp only at hSw); go_simp; (try with_reducible rfl))
    try simp only [Act.put, List.setIfInBounds_toArray, List.set_cons_zero, List.set_cons_succ]
    refine wpAnyH_take (i := 12) (oi := ⟨some 65, _, _, _, _, _⟩) (v := ?_) rfl (by kernel_rfl) (by kernel_rfl) (by kernel_rfl) (fun _ _ _ h => h) (Or.inl ⟨by rfl, ?_⟩) (by assumption) ?_
    rotate_left 1
    · (intro w hSw; (try dsimp only at hSw); go_simp; (try with_reducible rfl))
    try simp only [Act.put, List.setIfInBounds_toArray, List.set_cons_zero, List.set_cons_succ]
    refine wpAnyH_take (i := 13) (oi := ⟨some 66, _, _, _, _, _⟩) (v := ?_) rfl (by kernel_rfl) (by kernel_rfl) (by kernel_rfl) (fun _ _ _ h => h) (Or.inl ⟨by rfl, ?_⟩) (by assumption) ?_
    rotate_left 1
    · (intro w hSw; (try dsimp only at hSw); go_simp; (try with_reducible rfl))
    try simp only [Act.put, List.setIfInBounds_toArray, List.set_cons_zero, List.set_cons_succ]
    refine wpAnyH_take (i := 14) (oi := ⟨some 67, _, _, _, _, _⟩) (v := ?_) rfl (by kernel_rfl) (by kernel_rfl) (by kernel_rfl) (fun _ _ _ h => h) (Or.inl ⟨by rfl, ?_⟩) (by assumption) ?_
    rotate_left 1
    · (intro w hSw; (try dsimp only at hSw); go_simp; (try with_reducible rfl))
    try simp only [Act.put, List.setIfInBounds_toArray, List.set_cons_zero, List.set_cons_succ]
    refine wpAnyH_take (i := 15) (oi := ⟨some 68, _, _, _, _, _⟩) (v := ?_) rfl (by kernel_rfl) (by kernel_rfl) (by kernel_rfl) (fun _ _ _ h => h) (Or.inl ⟨by rfl, ?_⟩) (by assumption) ?_
    rotate_left 1
    · (intro w hSw; (try dsimp only at hSw); go_simp; (try with_reducible rfl))
    try simp only [Act.put, List.setIfInBounds_toArray, List.set_cons_zero, List.set_cons_succ]
    refine wpAnyH_take (i := 16) (oi := ⟨some 69, _, _, _, _, _⟩) (v := ?_) rfl (by kernel_rfl) (by kernel_rfl) (by kernel_rfl) (fun _ _ _ h => h) (Or.inl ⟨by rfl, ?_⟩) (by assumption) ?_
    rotate_left 1
    · (intro w hSw; (try dsimp only at hSw); go_simp; (try with_reducible rfl))
    try simp only [Act.put, List.setIfInBounds_toArray, List.set_cons_zero, List.set_cons_succ]
    refine wpAnyH_take (i := 17) (oi := ⟨some 70, _, _, _, _, _⟩) (v := ?_) rfl (by kernel_rfl) (by kernel_rfl) (by kernel_rfl) (fun _ _ _ h => h) (Or.inl ⟨by rfl, ?_⟩) (by assumption) ?_
    rotate_left 1
    · (intro w hSw; (try dsimp only at hSw); go_simp; (try with_reducible rfl))
    try simp only [Act.put, List.setIfInBounds_toArray, List.set_cons_zero, List.set_cons_succ]
    refine wpAnyH_take (i := 18) (oi := ⟨some 71, _, _, _, _, _⟩) (v := ?_) rfl (by kernel_rfl) (by kernel_rfl) (by kernel_rfl) (fun _ _ _ h => h) (Or.inl ⟨by rfl, ?_⟩) (by assumption) ?_
    rotate_left 1
    · (intro w hSw; (try dsimp only at hSw); go_simp; (try with_reducible rfl))
    try simp only [Act.put, List.setIfInBounds_toArray, List.set_cons_zero, List.set_cons_succ]
    refine wpAnyH_take (i := 19) (oi := ⟨some 72, _, _, _, _, _⟩) (v := ?_) rfl (by kernel_rfl) (by kernel_rfl) (by kernel_rfl) (fun _ _ _ h => h) (Or.inl ⟨by rfl, ?_⟩) (by assumption) ?_
    rotate_left 1
    · (intro w hSw; (try dsimp only at hSw); go_simp; (try with_reducible rfl))
    try simp only [Act.put, List.setIfInBounds_toArray, List.set_cons_zero, List.set_cons_succ]
    refine wpAnyH_take (i := 20) (oi := ⟨some 73, _, _, _, _, _⟩) (v := ?_) rfl (by kernel_rfl) (by kernel_rfl) (by kernel_rfl) (fun _ _ _ h => h) (Or.inl ⟨by rfl, ?_⟩) (by assumption) ?_
    rotate_left 1
    · (intro w hSw; (try dsimp only at hSw); go_simp; (try with_reducible rfl))
    try simp only [Act.put, List.setIfInBounds_toArray, List.set_cons_zero, List.set_cons_succ]
    refine wpAnyH_take (i := 21) (oi := ⟨some 74, _, _, _, _, _⟩) (v := ?_) rfl (by kernel_rfl) (by kernel_rfl) (by kernel_rfl) (fun _ _ _ h => h) (Or.inl ⟨by rfl, ?_⟩) (by assumption) ?_
    rotate_left 1
    · (intro w hSw; (try dsimp only at hSw); go_simp; (try with_reducible rfl))
    try simp only [Act.put, List.setIfInBounds_toArray, List.set_cons_zero, List.set_cons_succ]
    refine wpAnyH_ready (rs := [22]) (by kernel_rfl) (by simp) ?_
    refine AllReadyH.cons (o := ⟨some 75, _, _, _, _, _⟩) rfl (fun K hK => ?_) AllReadyH.nil
    go_simp
    go_at_call 62
    with_reducible refine (HI2.out _ _ hb2 b5.out b6.out b7.out b8.out).mono ?_
    rintro e w3 ⟨rfl, hb3⟩
    go_wp2_with fail
    refine hK.out _ _ (hb3.loads HM.out HX.out) (fun hHeld3 => ?_)
    clear hK K hHeld2
    try simp only [Act.put, List.setIfInBounds_toArray, List.set_cons_zero, List.set_cons_succ]
    refine wpAnyH_take (i := 23) (oi := ⟨some 76, _, _, _, _, _⟩) (v := ?_) rfl (by kernel_rfl) (by kernel_rfl) (by kernel_rfl) (fun _ _ _ h => h) (Or.inl ⟨by rfl, ?_⟩) (by assumption) ?_
    rotate_left 1
    · (intro w hSw; (try dsimp only at hSw); go_simp; (try with_reducible rfl))
    try simp only [Act.put, List.setIfInBounds_toArray, List.set_cons_zero, List.set_cons_succ]
    refine wpAnyH_take (i := 24) (oi := ⟨some 11, _, _, _, _, _⟩) (v := ?_) rfl (by kernel_rfl) (by kernel_rfl) (by kernel_rfl) (fun _ _ _ h => h) (Or.inl ⟨by rfl, ?_⟩) (by assumption) ?_
    rotate_left 1
    · (intro w hSw; (try dsimp only at hSw); go_simp; (try with_reducible rfl))
    try simp only [Act.put, List.setIfInBounds_toArray, List.set_cons_zero, List.set_cons_succ]
    refine wpAnyH_done (by kernel_rfl) ?_ _
    go_wp2_with fail
    go_ret
    rw [EQ.out]
    exact ⟨rfl, hb3⟩
end
end Go.Proofs.Ytmkkeknimpjfoaa
