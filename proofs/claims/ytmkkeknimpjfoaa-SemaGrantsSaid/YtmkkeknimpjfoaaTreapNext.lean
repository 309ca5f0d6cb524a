/-
  Package treap: Next, its answer.
-/
import Derived.Test.YtmkkeknimpjfoaaTreapFindFn
namespace Go.Proofs.Ytmkkeknimpjfoaa
open Go.ChangeShapes Go.WideShapes Go.ChangeAt Go.RowKit Go.Shelf
set_option linter.unusedVariables false
set_option linter.unusedSimpArgs false

/-- What Next answers. -/
def NextR (l : List Nd) (r x d e : Int) : Prop := (¬ IsKey x ∧ d = 0 ∧ e = 1) ∨ (IsKey x ∧ (¬ ∃ t, Good l r t) ∧ d = 0 ∧ e = 1) ∨
  (IsKey x ∧ ∃ t, Good l r t ∧ ((t.inord.find? (fun k => decide (x ≤ k)) = none ∧ d = 0 ∧ e = 4) ∨ (t.inord.find? (fun k => decide (x ≤ k)) = some d ∧ e = 0)))
theorem NextR.any (l : List Nd) (r x : Int) : ∃ d e, NextR l r x d e := by
  by_cases h : IsKey x
  · by_cases g : ∃ t, Good l r t
    · obtain ⟨t, ht⟩ := g
      cases m : t.inord.find? (fun k => decide (x ≤ k)) with
      | some d => exact ⟨d, 0, .inr (.inr ⟨h, t, ht, .inr ⟨m, rfl⟩⟩)⟩
      | none => exact ⟨_, _, .inr (.inr ⟨h, t, ht, .inl ⟨m, rfl, rfl⟩⟩)⟩
    · exact ⟨_, _, .inr (.inl ⟨h, g, rfl, rfl⟩)⟩
  · exact ⟨_, _, .inl ⟨h, rfl, rfl⟩⟩
section
variable {w0 W : World} {r : Int} {A : Option Addr} {n c tb kb sb : Nat} {x v : Int} {l : List Nd} {t : T}
set_option maxHeartbeats 4000000 in
theorem Next_is (hm : NMem w0 A n l) {d e : Int} (h : NextR l r x d e) :
    Calls Try.prog 53 #[.agg #[.int .i64 r, .slice A n c], .int .i64 x] w0 fun ee w' => ee = .returned (.tuple #[.int .i64 d, .int .i64 e]) ∧ Gr w0 w' := by
  have g0 := ((Gr.refl w0).al (.cells #[.int .i64 r, .slice A n c] 84)).al (.cells #[.int .i64 x] 3)
  have hP := fun W => Pri_is x W
  obtain ⟨p, hp⟩ : ∃ p, prf x = p := ⟨_, rfl⟩
  rw [hp] at hP
  have KP := Lib.hid hP
  have hpr := pri_range x
  rcases h with ⟨h1, rfl, rfl⟩ | ⟨h1, h2, rfl, rfl⟩ | ⟨h1, t, hg, hcase⟩
  · have hp0 : p < 0 := by rw [← hp, prf_no h1]; decide
    clear hP hp
    go_enter Try.func53, Try.ntmps53
    go_wp2_with fail
    with_reducible refine (KP.out _).mono ?_
    rintro e w1 ⟨rfl, rfl⟩
    go_wp2_with fail
    go_ret2
    exact ⟨rfl, g0⟩
  · have hp0 : ¬ p < 0 := by rw [← hp, prf_key h1]; omega
    have hC := Lib.hid (Right_is (c := c) (hm.gr g0) (v := false) (r := r) ⟨fun h => (by cases h), fun h => absurd h h2⟩)
    clear hP hp h2
    go_enter Try.func53, Try.ntmps53
    go_wp2_with fail
    with_reducible refine (KP.out _).mono ?_
    rintro e w1 ⟨rfl, rfl⟩
    go_wp2_with fail
    with_reducible refine hC.out.mono ?_
    rintro e w1 ⟨rfl, hb1⟩
    go_wp2_with fail
    go_ret2
    exact ⟨rfl, g0.trans hb1⟩
  · have hp0 : ¬ p < 0 := by rw [← hp, prf_key h1]; omega
    have hC := Lib.hid (Right_is (c := c) (hm.gr g0) (v := true) (r := r) ⟨fun _ => ⟨t, hg⟩, fun _ => rfl⟩)
    have B0 := (Blk.new w0 #[.int .i64 r, .slice A n c] 84).al (.cells #[.int .i64 x] 3)
    have B1 := Blk.new (w0.alloc (.cells #[.int .i64 r, .slice A n c] 84)) #[.int .i64 x] 3
    have HM := Lib.hid hm
    have HG := Lib.hid hg
    have HC := Lib.hid hcase
    have hsz : w0.heap.size + 2 = ((w0.alloc (.cells #[.int .i64 r, .slice A n c] 84)).alloc (.cells #[.int .i64 x] 3)).heap.size := by simp
    simp only [World.size_alloc] at B1
    clear hP hp hm hg hcase
    go_enter Try.func53, Try.ntmps53
    go_wp2_with fail
    with_reducible refine (KP.out _).mono ?_
    rintro e w1 ⟨rfl, rfl⟩
    go_wp2_with fail
    with_reducible refine hC.out.mono ?_
    rintro e w2 ⟨rfl, hb1⟩
    have hFW : FW w0 r A n c w0.heap.size (w0.heap.size + 1) w2.heap.size x (-1) (w2.alloc (.cells #[.int .i64 (-1)] 3)) := by
      have := hb1.size
      exact ⟨(g0.trans hb1).al _, (B0.gr hb1).al _, (B1.gr hb1).al _, Blk.new _ _ _, by omega, by omega, by omega⟩
    obtain ⟨pb, po, hway⟩ := next_way HM.out HG.out hFW
    rw [nx_find HG.out.2.2.2.1] at hway
    have KW := Lib.hid hway
    clear hway hsz
    rcases HC.out with ⟨m, rfl, rfl⟩ | ⟨m, rfl⟩
    · rw [m] at KW
      clear HC m
      go_wp2_with fail
      with_reducible refine KW.out.mono ?_
      rintro e w3 ⟨rfl, hF⟩
      have f0 : w3.cell? ⟨w2.heap.size, 0, none⟩ = some (.int .i64 (-1)) := (hF.b2.at_ (k := 0) rfl).1
      have GF := Lib.hid hF.gr
      clear hF KW hFW
      go_wp2_with fail
      go_ret2
      exact ⟨rfl, GF.out⟩
    · rw [m] at KW
      have hd : ¬ d < 0 := by
        have := (HG.out.isKey (List.mem_of_find?_eq_some m)).1; omega
      clear HC m
      go_wp2_with fail
      with_reducible refine KW.out.mono ?_
      rintro e w3 ⟨rfl, hF⟩
      have f0 : w3.cell? ⟨w2.heap.size, 0, none⟩ = some (.int .i64 d) := (hF.b2.at_ (k := 0) rfl).1
      have GF := Lib.hid hF.gr
      clear hF KW hFW
      go_wp2_with fail
      go_ret2
      exact ⟨rfl, GF.out⟩
end
end Go.Proofs.Ytmkkeknimpjfoaa
