/-
  Package treap: follow: whatever the closure, what it goes by.
-/
import Derived.Test.YtmkkeknimpjfoaaTreap
import Derived.IntWalk
import Derived.WalkMore
import Derived.ScopeJumps
import Derived.Deep.LoopGhost
import Derived.Lib.Walk
import Derived.Shelf.Abstract
import Derived.Deep.RegionHeld3
namespace Go.Proofs.Ytmkkeknimpjfoaa
open Go.ChangeShapes Go.WideShapes Go.ChangeAt Go.RowKit
set_option linter.unusedVariables false
set_option linter.unusedSimpArgs false

theorem least_ex {p : Nat → Prop} (h : ∃ m, p m) : ∃ m, p m ∧ ∀ k, p k → m ≤ k := by
  obtain ⟨m, hm⟩ := h
  induction m using Nat.strongRecOn with
  | _ m ih =>
    by_cases h : ∃ k, k < m ∧ p k
    · obtain ⟨k, hk, hp⟩ := h
      exact ih k hk hp
    · refine ⟨m, hm, fun k hk => Nat.le_of_not_lt fun hlt => h ⟨k, hlt, hk⟩⟩
/-- A scope with jumps back to one label, the measure a ghost. -/
theorem wp_scope_ghost {P : Program} {c rest : Code} {a : Act} {w : World} {Q : Exit → Act → World → Prop} (l : Nat) (J : Nat → Act → World → Prop) (hf : findLabel c l = some rest)
    (first : c.wp P (Exit.jump l (fun a' w' => ∃ m, J m a' w') Q) a w)
    (pass : ∀ m a w, J m a w → rest.wp P (Exit.jump l (fun a' w' => ∃ m', m' < m ∧ J m' a' w') Q) a w) : (Code.scope c).wp P Q a w := by
  classical
  let μ : Act → World → Nat := fun a w => if h : ∃ m, J m a w then Classical.choose (least_ex h) else 0
  have hμ : ∀ a w, (∃ m, J m a w) → J (μ a w) a w ∧ ∀ k, J k a w → μ a w ≤ k := fun a w h => by
    show J (if h : ∃ m, J m a w then Classical.choose (least_ex h) else 0) a w ∧ _
    have := Classical.choose_spec (least_ex h)
    simp only [μ, dif_pos h]
    exact this
  refine wp_scope_jumps l (fun a' w' => ∃ m, J m a' w') μ hf first fun a w h => ?_
  refine Code.wp_mono (fun e a' w' hq => ?_) (pass (μ a w) a w (hμ a w h).1)
  cases e with
  | goto l' =>
    obtain ⟨h1, m', h2, h3⟩ := hq
    exact ⟨h1, ⟨m', h3⟩, Nat.lt_of_le_of_lt ((hμ a' w' ⟨m', h3⟩).2 m' h3) h2⟩
  | normal => exact hq
  | exit id => exact hq
  | ret => exact hq
  | panic ch => exact hq
  | outgrown => exact hq

/-- The same, the way from the label on walked once. -/
theorem wp_scope_once {P : Program} {c rest : Code} {a : Act} {w : World} {Q : Exit → Act → World → Prop} (l : Nat) (J : Nat → Act → World → Prop) (hf : findLabel c l = some (.seq .skip rest))
    (pass : ∀ m a w, J m a w → rest.wp P (Exit.jump l (fun a' w' => ∃ m', m' < m ∧ J m' a' w') Q) a w)
    (first : (∀ m a w, J m a w → rest.wp P (Exit.jump l (fun a' w' => ∃ m, J m a' w') Q) a w) → c.wp P (Exit.jump l (fun a' w' => ∃ m, J m a' w') Q) a w) : (Code.scope c).wp P Q a w :=
  wp_scope_ghost l J hf (first fun m a w h => Code.wp_mono (fun e a' w' hq => by
    cases e with
    | goto l' => exact ⟨hq.1, hq.2.choose, hq.2.choose_spec.2⟩
    | normal => exact hq
    | exit id => exact hq
    | ret => exact hq
    | panic ch => exact hq
    | outgrown => exact hq) (pass m a w h)) (fun m a w h => wp_seq (wp_skip (pass m a w h)))

/-- Which of a node's links. -/
def side (r : Bool) : Nat := if r then 2 else 1
/-- Where a way ends: the link, the tree behind it, what was kept. -/
def run (dir : Int → Option Bool) (upd : Int → Int → Int) (b off : Nat) : T → Nat → Nat → Int → (Nat × Nat) × T × Int
  | .nil, pb, po, s => ((pb, po), .nil, s)
  | .node i k L R, pb, po, s => match dir k with
    | none => ((pb, po), .node i k L R, upd k s)
    | some r => if r then run dir upd b off R b (off + i * 3 + 2) (upd k s) else run dir upd b off L b (off + i * 3 + 1) (upd k s)
section
variable {dir : Int → Option Bool} {upd : Int → Int → Int} {b off : Nat}
theorem run_stop {i : Nat} {k : Int} {L R : T} {pb po : Nat} {s : Int} (h : dir k = none) : run dir upd b off (.node i k L R) pb po s = ((pb, po), .node i k L R, upd k s) := by
  simp only [run, h]
theorem run_go {i : Nat} {k : Int} {L R : T} {pb po : Nat} {s : Int} {r : Bool} (h : dir k = some r) : run dir upd b off (.node i k L R) pb po s = run dir upd b off (if r then R else L) b (off + i * 3 + side r) (upd k s) := by
  cases r <;> simp [run, h, side]
theorem run_lay {l : List Nd} {w : World} (hc : ∀ i nd, l[i]? = some nd → w.cell? ⟨b, off + i * 3 + 1, none⟩ = some (.int .i64 nd.left) ∧ w.cell? ⟨b, off + i * 3 + 2, none⟩ = some (.int .i64 nd.right)) :
    ∀ {t : T} {pb po : Nat} {s a : Int}, Lay l t a → w.cell? ⟨pb, po, none⟩ = some (.int .i64 a) → ∃ v, Lay l (run dir upd b off t pb po s).2.1 v ∧ w.cell? ⟨(run dir upd b off t pb po s).1.1, (run dir upd b off t pb po s).1.2, none⟩ = some (.int .i64 v)
  | .nil, pb, po, s, a, h, hp => ⟨a, h, hp⟩
  | .node i k L R, pb, po, s, a, h, hp => by
    have h' := h
    obtain ⟨h1, nd, h2, h3, h4, h5⟩ := h
    cases hd : dir k with
    | none => rw [run_stop hd]; exact ⟨a, h', hp⟩
    | some r =>
      rw [run_go hd]
      cases r with
      | true => exact run_lay hc h5 (hc i nd h2).2
      | false => exact run_lay hc h4 (hc i nd h2).1
end

section
variable {g : Nat} {caps : Array Value} {Inv : Int → World → Prop} {dir : Int → Option Bool} {upd : Int → Int → Int} {tb b off n c : Nat} {A : Option Addr} {l : List Nd} {r : Int}
/-- What the closure does with a node. -/
def Further (g : Nat) (caps : Array Value) (Inv : Int → World → Prop) (dir : Int → Option Bool) (upd : Int → Int → Int) (b off : Nat) (l : List Nd) : Prop :=
  ∀ (s : Int) (W : World) (i : Nat) (nd : Nd), Inv s W → l[i]? = some nd → Calls Try.prog g (#[.pointer (some ⟨b, off + i * 3, none⟩)] ++ caps) W fun e w' =>
    e = .returned (.pointer ((dir nd.key).map fun q => ⟨b, off + i * 3 + side q, none⟩)) ∧ Inv (upd nd.key s) w'
/-- What holds of every world on the way. -/
structure Keeps (Inv : Int → World → Prop) (tb : Nat) (r : Int) (A : Option Addr) (n c : Nat) (l : List Nd) : Prop where
  root : ∀ s W, Inv s W → W.cell? ⟨tb, 0, none⟩ = some (.int .i64 r)
  nodes : ∀ s W, Inv s W → W.cell? ⟨tb, 1, none⟩ = some (.slice A n c)
  mem : ∀ s W, Inv s W → NMem W A n l
  drew : ∀ s W, Inv s W → Inv s W.drew

set_option maxHeartbeats 4000000 in
theorem follow_is (eg : ∀ args w, (callFunc g args).run Try.prog w = .ok (.enter g args) w) (hK : Keeps Inv tb r A n c l) (hF : Further g caps Inv dir upd b off l) (hA : n = 0 ∨ A = some ⟨b, off, none⟩)
    {t : T} (hL : Lay l t r) {s : Int} {w : World} (h0 : Inv s w) :
    Calls Try.prog 58 #[.pointer (some ⟨tb, 0, none⟩), .func (.func g) #[] caps] w fun e w' =>
      e = .returned (.pointer (some ⟨(run dir upd b off t tb 0 s).1.1, (run dir upd b off t tb 0 s).1.2, none⟩)) ∧ Inv (run dir upd b off t tb 0 s).2.2 w' := by
  have KK := Lib.hid hK
  have KF := Lib.hid hF
  have KA := Lib.hid hA
  have KI := Lib.hid h0
  have KL := Lib.hid hL
  obtain ⟨R0, hR0⟩ : ∃ R0, run dir upd b off t tb 0 s = R0 := ⟨_, rfl⟩
  rw [hR0]
  have KR := Lib.hid hR0
  clear hK hF hA hR0 hL
  have c0 := KK.out.root s w h0
  have c1 := KK.out.nodes s w h0
  clear h0
  go_enter Try.func58, Try.ntmps58
  go_wp2_with fail
  refine wp_scope_once 0 (fun m a' w' => ∃ (pb po : Nat) (t' : T) (v s' : Int) (u6 u7 u8 u9 u10 u11 u12 u13 u14 u15 u16 u17 u18 u19 u20 u21 u22 u23 u24 u25 u26 u27 u28 : Value), a' = { tmps := #[.pointer (some ⟨tb, 0, none⟩), .func (.func g) #[] caps, undef, undef, .pointer none, .pointer (some ⟨pb, po, none⟩), u6, u7, u8, u9, u10, u11, u12, u13, u14, u15, u16, u17, u18, u19, u20, u21, u22, u23, u24, u25, u26, u27, u28], defers := [] } ∧
    Hid (Inv s' w') ∧ Hid (∀ s W, Inv s W → W.cell? ⟨pb, po, none⟩ = some (.int .i64 v)) ∧ Hid (Lay l t' v) ∧ t'.size = m ∧ Hid (run dir upd b off t' pb po s' = R0)) rfl ?_ ?_
  · rintro m a' w' ⟨pb, po, t', v, s', u6, u7, u8, u9, u10, u11, u12, u13, u14, u15, u16, u17, u18, u19, u20, u21, u22, u23, u24, u25, u26, u27, u28, rfl, HI, HP, HL, hm, HR⟩
    have d0 := HP.out s' w' HI.out
    cases t' with
    | nil =>
      obtain rfl : v = -1 := HL.out
      go_wp2_with fail
      simp only [Exit.jump]
      go_ret
      rw [← HR.out]
      exact ⟨rfl, HI.out⟩
    | node i k L R =>
      obtain ⟨hv, nd, hx, rfl, h4, h5⟩ := HL.out
      subst hv
      have HX := Lib.hid hx
      have H4 := Lib.hid h4
      have H5 := Lib.hid h5
      have ne : ((i : Int) == -1) = false := beq_eq_false_iff_ne.2 (by omega)
      have hi : i < n := by have := (List.getElem?_eq_some_iff.1 hx).1; have := (KK.out.mem s' w' HI.out).1; omega
      obtain rfl : A = some ⟨b, off, none⟩ := by
        rcases KA.out with h | h
        · omega
        · exact h
      have g0 : (0 : Int) ≤ (i : Int) := by omega
      have g1 : (i : Int) < (n : Int) := by omega
      have d1 := KK.out.nodes s' w' HI.out
      have hC := fun W h => KF.out s' W i nd h hx
      clear hx h4 h5 c0 c1 HL
      cases hd : dir nd.key with
      | none =>
        rw [hd] at hC
        simp only [Option.map_none] at hC
        have KC := Lib.hid hC
        have HD := Lib.hid hd
        clear hC hd
        go_wp2_with fail
        go_region_held3 (fun w' => w'.cell? ⟨tb, 1, none⟩ = some (.slice (some ⟨b, off, none⟩) n c) ∧ w'.cell? ⟨pb, po, none⟩ = some (.int .i64 (i : Int))) (first | exact ⟨d1, d0⟩ | exact ⟨KK.out.nodes _ _ hI2, HP.out _ _ hI2⟩)
          (first | (go_at_fn g; (with_reducible refine (KC.out _ (KK.out.drew _ _ HI.out)).mono ?_); rintro e w2 ⟨rfl, hI2⟩))
        go_wp2_with fail
        simp only [Exit.jump]
        go_ret
        rw [← HR.out, run_stop HD.out]
        exact ⟨rfl, hI2⟩
      | some q =>
        rw [hd] at hC
        simp only [Option.map_some] at hC
        have KC := Lib.hid hC
        have HD := Lib.hid hd
        clear hC hd
        go_wp2_with fail
        go_region_held3 (fun w' => w'.cell? ⟨tb, 1, none⟩ = some (.slice (some ⟨b, off, none⟩) n c) ∧ w'.cell? ⟨pb, po, none⟩ = some (.int .i64 (i : Int))) (first | exact ⟨d1, d0⟩ | exact ⟨KK.out.nodes _ _ hI2, HP.out _ _ hI2⟩)
          (first | (go_at_fn g; (with_reducible refine (KC.out _ (KK.out.drew _ _ HI.out)).mono ?_); rintro e w2 ⟨rfl, hI2⟩))
        go_wp2_with fail
        go_step3
        refine ⟨rfl, (if q then R else L).size, ?_, b, off + i * 3 + side q, if q then R else L, if q then nd.right else nd.left, upd nd.key s', _, _, _, _, _, _, _, _, _, _, _, _, _, _, _, _, _, _, _, _, _, _, _, rfl, Lib.hid hI2, Lib.hid (fun s W h => ?_), Lib.hid ?_, rfl, Lib.hid ?_⟩
        · cases q <;> simp [T.size] at hm ⊢ <;> omega
        · have := (KK.out.mem s W h).cells HX.out
          cases q
          · exact this.2.1
          · exact this.2.2
        · cases q
          · exact H4.out
          · exact H5.out
        · rw [← HR.out, run_go HD.out]
  · intro hp
    go_wp2_with fail
    rename_i hk
    refine wp_label ?_
    exact hk _ _ (hp _ _ _ ⟨tb, 0, t, r, s, _, _, _, _, _, _, _, _, _, _, _, _, _, _, _, _, _, _, _, _, _, _, _, rfl, KI, Lib.hid KK.out.root, KL, rfl, KR⟩)
end
end Go.Proofs.Ytmkkeknimpjfoaa
