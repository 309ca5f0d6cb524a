/-
  Package treap's laws: alive; what they all ask of a tree.
-/
import Derived.Test.YtpblonfcdnephaaTreapMade
namespace Go.Proofs.Ytpblonfcdnephaa
open Go.ChangeShapes Go.WideShapes Go.ChangeAt Go.RowKit
set_option linter.unusedVariables false
set_option linter.unusedSimpArgs false

instance (l : List Int) (x y : Int) : Decidable (Ahead l x y) := by unfold Ahead; infer_instance
theorem ahd_t {l : List Int} {x y : Int} (h : Ahead l x y) : ahd l x y = true := ahd_iff.2 h
theorem ahd_f {l : List Int} {x y : Int} (h : ¬ Ahead l x y) : ahd l x y = false := Bool.eq_false_iff.2 fun e => h (ahd_iff.1 e)
theorem dep1 : dep [1, 2, 3] 1 = 1 := by
  unfold dep
  rw [List.filter_cons_of_neg (by rw [ahd_f (by decide)]; decide), List.filter_cons_of_neg (by rw [ahd_f (by decide)]; decide), List.filter_cons_of_pos (by rw [ahd_t (by decide)])]
  rfl
theorem dep2 : dep [1, 2, 3] 2 = 2 := by
  unfold dep
  rw [List.filter_cons_of_pos (by rw [ahd_t (by decide)]), List.filter_cons_of_neg (by rw [ahd_f (by decide)]; decide), List.filter_cons_of_pos (by rw [ahd_t (by decide)])]
  rfl
theorem arow (w : World) (t : TypeId) : IMem (w.alloc (.cells #[.int .i64 1, .int .i64 2, .int .i64 3] t)) (some ⟨w.heap.size, 0, none⟩) 3 [1, 2, 3] :=
  ⟨rfl, fun z hz => by simp at hz; rcases hz with rfl | rfl | rfl <;> exact ⟨by decide, by decide⟩, fun _ => ⟨_, 0, rfl, by simp, fun j u hu => by
    match j, hu with
    | 0, hu => simp at hu; subst hu; simp
    | 1, hu => simp at hu; subst hu; simp
    | 2, hu => simp at hu; subst hu; simp⟩⟩
set_option maxHeartbeats 4000000 in
theorem alive_ok (w : World) : Calls Try.prog 17 #[] w fun e w' => e = .returned (.bool true) ∧ Gr w w' := by
  have g0 := (Gr.refl w).al (.cells #[.int .i64 1, .int .i64 2, .int .i64 3] 3)
  have c1 := Lib.hid (made_is (c0 := 3) (arow w 3) (by omega) (by omega))
  go_enter Try.func17, Try.ntmps17
  go_wp2_with fail
  with_reducible refine c1.out.mono ?_
  rintro e w1 ⟨r, A, n, c, l, t, C, d, rfl, hm, hg, hk, hb, hall⟩
  have hi : t.inord = [1, 2, 3] := rising_ext hg.2.2.2.1.rising (by unfold Rising; decide) fun y => by
    rw [hall y]
    constructor
    · rintro ⟨x, hx, rfl⟩
      simp at hx
      rcases hx with rfl | rfl | rfl <;> decide
    · intro h
      simp at h
      rcases h with rfl | rfl | rfl
      · exact ⟨1, by decide, by decide⟩
      · exact ⟨2, by decide, by decide⟩
      · exact ⟨3, by decide, by decide⟩
  have hn3 : n = 3 := by have := hk.1; rw [hi] at this; exact this.symm
  subst hn3
  have d1 : dpt t 1 = 1 := by rw [dpt_dep hg.2.2.2.1 hg.2.2.2.2 (by rw [hi]; decide), hi, dep1]
  have d2 : dpt t 2 = 2 := by rw [dpt_dep hg.2.2.2.1 hg.2.2.2.2 (by rw [hi]; decide), hi, dep2]
  have F1 : FindR l r 1 1 0 := .inr (.inr ⟨⟨by decide, by decide⟩, t, hg, .inr ⟨by rw [hi]; decide, by rw [d1]; rfl, rfl⟩⟩)
  have F2 : FindR l r 2 2 0 := .inr (.inr ⟨⟨by decide, by decide⟩, t, hg, .inr ⟨by rw [hi]; decide, by rw [d2]; rfl, rfl⟩⟩)
  have G1 := Lib.hid (g0.trans hb)
  have BT := Blk.new w1 #[.int .i64 r, .slice A 3 c] 24
  have k1 := Lib.hid (Find_is (c := c) (hm.gr ((Gr.refl w1).al (.cells #[.int .i64 r, .slice A 3 c] 24))) F1)
  have HM := Lib.hid hm
  have HF2 := Lib.hid F2
  clear hm hg hk hb hall hi d1 d2 F1 F2 c1 g0
  go_wp2_with fail
  with_reducible refine k1.out.mono ?_
  rintro e w2 ⟨rfl, hb2⟩
  have f0 := ((BT.gr hb2).at_ (k := 0) rfl).1
  have f1 := ((BT.gr hb2).at_ (k := 1) rfl).1
  have k2 := Lib.hid (Find_is (c := c) ((HM.out.gr ((Gr.refl w1).al (.cells #[.int .i64 r, .slice A 3 c] 24))).gr hb2) HF2.out)
  go_wp2_with fail
  with_reducible refine k2.out.mono ?_
  rintro e w3 ⟨rfl, hb3⟩
  have f2 := (((BT.gr hb2).gr hb3).at_ (k := 1) rfl).1
  clear f0 f1
  go_wp2_with fail
  go_ret
  exact ⟨rfl, ((G1.out.al _).trans hb2).trans hb3⟩
end Go.Proofs.Ytpblonfcdnephaa
