/-
  Package sema: Acquire, Release.
-/
import Derived.Test.YtmkkeknimpjfoaaSemaAfter
namespace Go.Proofs.Ytmkkeknimpjfoaa
open Go.ChangeShapes Go.WideShapes Go.ChangeAt Go.RowKit Go.Shelf
set_option maxRecDepth 100000
set_option linter.unusedVariables false
set_option linter.unusedSimpArgs false

theorem coming_is (w : World) (who : Int) (first : Bool) : Calls Try.prog 24 #[.int .i64 who, .bool first] w fun e w' =>
    e = .returned (.func (.func 36) #[] #[.pointer (some ⟨w.heap.size, 0, none⟩), .pointer (some ⟨w.heap.size + 1, 0, none⟩)]) ∧ w' = (w.alloc (.cells #[.int .i64 who] 3)).alloc (.cells #[.bool first] 4) := by
  have hmf : ∀ (fn : Fn) (first cap : Array Value) (w : World), (Instr.makeFunc fn first cap).run Try.prog w = .ok (.func fn first cap) w := fun _ _ _ _ => rfl
  go_enter Try.func24, Try.ntmps24
  go_wp2_with fail
  go_ret
  exact ⟨rfl, rfl⟩
section
variable {w : World} {A : Option Addr} {n c : Nat} {L : List SV} {a : Int}
theorem acq_aft {who : Int} {first : Bool} {Q : List (Int × Int × List Int)} {is : Bool} {e : Int} (h : AcqR L a who first Q is e) :
    ∃ s x1 e1 x, (Tab L → IsKey a → ComeR a (gt L a).1 (gt L a).2 who first s x1 e1) ∧ AftR L a s x1 e1 Q x e ∧ (is = true ↔ e = 0 ∧ x = who) := by
  rcases h with ⟨h, rfl, rfl, rfl⟩ | ⟨ht, hk, h0, h⟩
  · by_cases hb : Tab L ∧ IsKey a
    · have hw : who < 0 := by
        rcases h with h | h | h
        · exact absurd hb.1 h
        · exact absurd hb.2 h
        · exact h
      exact ⟨(0, 0, []), 0, 1, 0, fun _ _ => .inl ⟨by decide, .inl ⟨.inl hw, rfl, rfl⟩, rfl, rfl⟩, .inr (.inl ⟨hb.2, hb.1, by decide, rfl, rfl, rfl⟩), by simp⟩
    · refine ⟨(0, 0, []), 0, 1, 0, fun h1 h2 => absurd ⟨h1, h2⟩ hb, .inl ⟨?_, rfl, rfl, rfl⟩, by simp⟩
      by_cases ht : Tab L
      · exact .inl fun hk => hb ⟨ht, hk⟩
      · exact .inr ht
  · obtain ⟨k1, k2, k3, k4⟩ := gt_cnt ht.2 hk
    rcases h with ⟨hm, rfl, rfl, rfl⟩ | ⟨hm, hc, rfl, rfl, rfl⟩ | ⟨hm, hc, hl, rfl, rfl, rfl⟩ | ⟨hm, hc, hl, hs, rfl, rfl, rfl⟩ | ⟨hm, hc, hl, hs, rfl, rfl, rfl⟩
    · exact ⟨(0, 0, []), 0, 7, 0, fun _ _ => .inl ⟨by decide, .inr (.inl ⟨h0, k3, hm, rfl, rfl⟩), rfl, rfl⟩, .inr (.inl ⟨hk, ht, by decide, rfl, rfl, rfl⟩), by simp⟩
    · have hl : (gt L a).2 = [] := k4.resolve_left (by omega)
      have hh : Has L a := (gt_has ht.2).2 fun e => by rw [e] at hc; simp at hc
      have hok : SOk (sp a ((gt L a).1 - 1) (gt L a).2) := ⟨hk, by show 0 ≤ (gt L a).1 - 1; omega, by show (gt L a).1 - 1 ≤ 2147483647; omega, k3, .inr hl⟩
      have h64 : (setl L (sp a ((gt L a).1 - 1) (gt L a).2)).length ≤ 64 := Nat.le_trans (setl_len ht.2 (.inl hh)) ht.1
      exact ⟨(a, (gt L a).1 - 1, (gt L a).2), who, 0, who, fun _ _ => .inr (.inl ⟨hc, ⟨_, .inr (.inr (.inr ⟨h0, k3, hm, by rw [hl]; decide, rfl, rfl⟩))⟩, rfl, rfl, rfl⟩),
        .inr (.inr ⟨hk, ht, rfl, _, 0, .inr ⟨hok, ht, .inr ⟨h64, rfl, rfl⟩⟩, .inr ⟨rfl, rfl, rfl, rfl⟩⟩), by simp⟩
    · exact ⟨(0, 0, []), 0, 5, 0, fun _ _ => .inl ⟨by decide, .inr (.inr (.inl ⟨h0, k3, hm, hl, rfl, rfl⟩)), rfl, rfl⟩, .inr (.inl ⟨hk, ht, by decide, rfl, rfl, rfl⟩), by simp⟩
    · have hok : SOk (sp a 0 (psh first (gt L a).2 who)) := ⟨hk, Int.le_refl _, (by decide : (0 : Int) ≤ 2147483647), psh_ok k3 h0 hm hl, .inl rfl⟩
      exact ⟨(a, 0, psh first (gt L a).2 who), -1, 0, 0, fun _ _ => .inr (.inr ⟨by omega, ⟨_, .inr (.inr (.inr ⟨h0, k3, hm, hl, rfl, rfl⟩)), by rw [hc]; rfl⟩, rfl, rfl⟩),
        .inr (.inr ⟨hk, ht, rfl, [], 5, .inr ⟨hok, ht, .inl ⟨hs, rfl, rfl⟩⟩, .inl ⟨by decide, rfl, rfl, rfl⟩⟩), by simp⟩
    · have hok : SOk (sp a 0 (psh first (gt L a).2 who)) := ⟨hk, Int.le_refl _, (by decide : (0 : Int) ≤ 2147483647), psh_ok k3 h0 hm hl, .inl rfl⟩
      exact ⟨(a, 0, psh first (gt L a).2 who), -1, 0, -1, fun _ _ => .inr (.inr ⟨by omega, ⟨_, .inr (.inr (.inr ⟨h0, k3, hm, hl, rfl, rfl⟩)), by rw [hc]; rfl⟩, rfl, rfl⟩),
        .inr (.inr ⟨hk, ht, rfl, _, 0, .inr ⟨hok, ht, .inr ⟨hs, rfl, rfl⟩⟩, .inr ⟨rfl, rfl, rfl, rfl⟩⟩), by simp; omega⟩
theorem rel_aft {Q : List (Int × Int × List Int)} {x e : Int} (h : RelR L a Q x e) :
    ∃ s x1 e1, (Tab L → IsKey a → GiveR a (gt L a).1 (gt L a).2 s x1 e1) ∧ AftR L a s x1 e1 Q x e := by
  rcases h with ⟨h, rfl, rfl, rfl⟩ | ⟨ht, hk, h⟩
  · exact ⟨(0, 0, []), 0, 1, fun h1 h2 => absurd h (by simp [h1, h2]), .inl ⟨h.symm, rfl, rfl, rfl⟩⟩
  · obtain ⟨k1, k2, k3, k4⟩ := gt_cnt ht.2 hk
    rcases h with ⟨r, hl, rfl, rfl⟩ | ⟨hl, hc, rfl, rfl, rfl⟩ | ⟨hl, hc, hs, rfl, rfl, rfl⟩ | ⟨hl, hc, hs, rfl, rfl, rfl⟩
    · have hc : (gt L a).1 = 0 := k4.resolve_right (by rw [hl]; simp)
      have hh : Has L a := (gt_has ht.2).2 fun e => by rw [e] at hl; simp at hl
      have hr : L7.Ln r := by
        rw [hl] at k3
        exact ⟨by have := k3.1; simp at this; omega, (L7.good_cons.1 k3.2).2.2⟩
      have hok : SOk (sp a 0 r) := ⟨hk, Int.le_refl _, (by decide : (0 : Int) ≤ 2147483647), hr, .inl rfl⟩
      have h64 : (setl L (sp a 0 r)).length ≤ 64 := Nat.le_trans (setl_len ht.2 (.inl hh)) ht.1
      exact ⟨(a, 0, r), x, 0, fun _ _ => .inl ⟨r, hl, by rw [hc], rfl⟩, .inr (.inr ⟨hk, ht, rfl, _, 0, .inr ⟨hok, ht, .inr ⟨h64, rfl, rfl⟩⟩, .inr ⟨rfl, rfl, rfl, rfl⟩⟩)⟩
    · exact ⟨(0, 0, []), 0, 10, fun _ _ => .inr (.inl ⟨hl, hc, rfl, rfl, rfl⟩), .inr (.inl ⟨hk, ht, by decide, rfl, rfl, rfl⟩)⟩
    · have hok : SOk (sp a ((gt L a).1 + 1) []) := ⟨hk, by show 0 ≤ (gt L a).1 + 1; omega, by show (gt L a).1 + 1 ≤ 2147483647; omega, L7.Ln.nil, .inr rfl⟩
      exact ⟨(a, (gt L a).1 + 1, []), -1, 0, fun _ _ => .inr (.inr ⟨hl, hc, rfl, rfl, rfl⟩), .inr (.inr ⟨hk, ht, rfl, [], 5, .inr ⟨hok, ht, .inl ⟨hs, rfl, rfl⟩⟩, .inl ⟨by decide, rfl, rfl, rfl⟩⟩)⟩
    · have hok : SOk (sp a ((gt L a).1 + 1) []) := ⟨hk, by show 0 ≤ (gt L a).1 + 1; omega, by show (gt L a).1 + 1 ≤ 2147483647; omega, L7.Ln.nil, .inr rfl⟩
      exact ⟨(a, (gt L a).1 + 1, []), -1, 0, fun _ _ => .inr (.inr ⟨hl, hc, rfl, rfl, rfl⟩), .inr (.inr ⟨hk, ht, rfl, _, 0, .inr ⟨hok, ht, .inr ⟨hs, rfl, rfl⟩⟩, .inr ⟨rfl, rfl, rfl, rfl⟩⟩)⟩
set_option maxHeartbeats 4000000 in
theorem Acquire_is (hm : SMem w A n L) (hnc : n ≤ c) (hcm : c ≤ 9223372036854775807) (ha : B64 a) {who : Int} (hw : B64 who) {first : Bool} {Q : List (Int × Int × List Int)} {is : Bool} {e : Int} (h : AcqR L a who first Q is e) :
    Calls Try.prog 8 #[.slice A n c, .int .i64 a, .int .i64 who, .bool first] w (Gave Q #[.bool is, .int .i64 e] w) := by
  obtain ⟨s, x1, e1, x, hcome, haft, his⟩ := acq_aft h
  have g0 := ((Gr.refl w).al (.cells #[.int .i64 who] 3)).al (.cells #[.bool first] 4)
  have B0 := (Blk.new w #[.int .i64 who] 3).al (.cells #[.bool first] 4)
  have B1 := Blk.new (w.alloc (.cells #[.int .i64 who] 3)) #[.bool first] 4
  simp only [World.size_alloc] at B1
  have KC := Lib.hid (coming_is w who first)
  have KA := Lib.hid (after_is (F := 36) (caps := #[.pointer (some ⟨w.heap.size, 0, none⟩), .pointer (some ⟨w.heap.size + 1, 0, none⟩)]) (enters_of Try.func36 (by kernel_rfl) rfl) (hm.gr g0) hnc hcm ha
    (fun ht hk W y hg hy hp => by
      obtain ⟨h1, h2, h3⟩ := (show y.addr = a ∧ y.cnt = (gt L a).1 ∧ y.line = (gt L a).2 by simpa [SV.pl] using hp)
      have hc := hcome ht hk
      rw [← h2, ← h3, ← h1] at hc
      exact coming1_is hy.1 hy.2.1 hy.2.2.1 hy.2.2.2.1 hy.2.2.2.2 hw ((B0.gr hg).at_ (k := 0) rfl).1 ((B1.gr hg).at_ (k := 0) rfl).1 (B0.gr hg).lt (B1.gr hg).lt hc) haft)
  have G0 := Lib.hid g0
  clear hm hnc hcm ha hw h hcome haft g0 B0 B1
  have hdec : (e = 0 ∧ x = who ∧ is = true) ∨ (e = 0 ∧ (x == who) = false ∧ is = false) ∨ ((e == 0) = false ∧ is = false) := by
    by_cases he : e = 0
    · by_cases hx : x = who
      · exact .inl ⟨he, hx, his.2 ⟨he, hx⟩⟩
      · exact .inr (.inl ⟨he, beq_eq_false_iff_ne.2 hx, by cases is; rfl; exact absurd (his.1 rfl).2 hx⟩)
    · exact .inr (.inr ⟨beq_eq_false_iff_ne.2 he, by cases is; rfl; exact absurd (his.1 rfl).1 he⟩)
  clear his
  rcases hdec with ⟨rfl, rfl, rfl⟩ | ⟨rfl, hx, rfl⟩ | ⟨he, rfl⟩
  all_goals (
    go_enter Try.func8, Try.ntmps8
    go_wp2_with fail
    with_reducible refine KC.out.mono ?_
    rintro ee w1 ⟨rfl, rfl⟩
    go_wp2_with fail
    with_reducible refine KA.out.mono ?_
    rintro ee w2 ⟨B, m, T, rfl, hT, hTm, hmx, hTp, h2, hso⟩
    have HSO := Lib.hid (hso.low G0.out.size)
    have GG := Lib.hid (G0.out.trans h2)
    have HT := Lib.hid hT
    have HTM := Lib.hid hTm
    have HMX := Lib.hid hmx
    have HTP := Lib.hid hTp
    clear hT hTm hmx hTp h2 hso
    generalize hN : T.length = N at *
    simp only [Array.append_assoc, List.append_toArray, List.cons_append, List.nil_append]
    go_wp2_with fail
    go_ret3
    exact ⟨B, m, T, by rw [hN]; rfl, hN ▸ HT.out, hN ▸ HTM.out, HMX.out, HTP.out, GG.out, hN ▸ HSO.out⟩)
set_option maxHeartbeats 4000000 in
theorem Release_is (hm : SMem w A n L) (hnc : n ≤ c) (hcm : c ≤ 9223372036854775807) (ha : B64 a) {Q : List (Int × Int × List Int)} {x e : Int} (h : RelR L a Q x e) :
    Calls Try.prog 9 #[.slice A n c, .int .i64 a] w (Gave Q #[.int .i64 x, .int .i64 e] w) := by
  obtain ⟨s, x1, e1, hgive, haft⟩ := rel_aft h
  have KA := Lib.hid (after_is (F := 25) (caps := #[]) (enters_of Try.func25 (by kernel_rfl) rfl) hm hnc hcm ha
    (fun ht hk W y hg hy hp => by
      obtain ⟨h1, h2, h3⟩ := (show y.addr = a ∧ y.cnt = (gt L a).1 ∧ y.line = (gt L a).2 by simpa [SV.pl] using hp)
      have hc := hgive ht hk
      obtain ⟨k1, k2, k3, k4⟩ := gt_cnt ht.2 hk
      rw [← h2, ← h3, ← h1] at hc
      rw [← h2] at k1 k2
      rw [← h3] at k3
      exact granted_is hy.1 k1 k2 hy.2.2.1 hy.2.2.2.1 hy.2.2.2.2 k3 hc) haft)
  clear hm hnc hcm ha h hgive haft
  go_enter Try.func9, Try.ntmps9
  go_wp2_with fail
  with_reducible refine KA.out.mono ?_
  rintro ee w2 ⟨B, m, T, rfl, hT, hTm, hmx, hTp, h2, hso⟩
  have HSO := Lib.hid hso
  have GG := Lib.hid h2
  have HT := Lib.hid hT
  have HTM := Lib.hid hTm
  have HMX := Lib.hid hmx
  have HTP := Lib.hid hTp
  clear hT hTm hmx hTp h2 hso
  generalize hN : T.length = N at *
  simp only [Array.append_assoc, List.append_toArray, List.cons_append, List.nil_append]
  go_wp2_with fail
  go_ret3
  exact ⟨B, m, T, by rw [hN]; rfl, hN ▸ HT.out, hN ▸ HTM.out, HMX.out, HTP.out, GG.out, hN ▸ HSO.out⟩
end
end Go.Proofs.Ytmkkeknimpjfoaa
