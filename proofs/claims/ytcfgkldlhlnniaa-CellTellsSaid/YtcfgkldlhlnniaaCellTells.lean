/-
  Proved: deadboltlaw02.CellTells returns true at every input (which memories may be, and any access, is as the document says, or refused). No condition.
-/
import Derived.Test.YtcfgkldlhlnniaaCellRef
import Derived.Test.YtcfgkldlhlnniaaEnds
import Derived.Test.YtcfgkldlhlnniaaOpenCells
namespace Go.Proofs.Ytcfgkldlhlnniaa
open Go.ChangeShapes Go.WideShapes Go.ChangeAt Go.RowKit
set_option linter.unusedVariables false

section
variable {A : Option Addr} {n c : Nat} {l : List (Int × Int)} {w : World}
theorem set_self' {i : Nat} {x : Int × Int} (h : l[i]? = some x) : l.set i (x.1, x.2) = l := by
  obtain ⟨hi, rfl⟩ := List.getElem?_eq_some_iff.1 h
  exact List.set_getElem_self hi

set_option maxHeartbeats 4000000 in
set_option maxRecDepth 100000 in
theorem ctells_1 {a v old : Int} (hn : n ≤ 9223372036854775807) (hc : n ≤ c) (hm0 : Mem w A (min n 70) l) (hr : rightB l = false) (hF : FindIs A (min n 70) c l a 0 0 1)
    (hW : ∀ w, Mem w A (min n 70) l → Calls Try.prog 15 #[.slice A (min n 70) c, .int .i64 a] w fun e w' => e = .returned (.int .i64 1) ∧ Gr w w') :
    Calls Try.prog 3 #[.slice A n c, .int .i64 a, .int .i64 v, .int .i64 old] w fun e w' => e = .returned (.bool true) ∧ Gr w w' := by
  have c0 := fun w => Lib.hid (few_ok A n c w hn hc)
  obtain ⟨N, hN⟩ : ∃ N, min n 70 = N := ⟨_, rfl⟩
  have hNb : N ≤ 9223372036854775807 := by omega
  rw [hN] at hF
  simp only [hN] at c0 hm0 hW
  clear hN
  have k1 := fun w hm => Lib.hid (Load_of hF w hm)
  have k2 := fun w hm => Lib.hid (Store_no (v := v) (w := w) hF (by omega) hm)
  have k3 := fun w hm => Lib.hid (Add2_no (v := v) (w := w) hF (by omega) hm)
  have k4 := fun w hm => Lib.hid (Swap_no (v := v) (w := w) hF (by omega) hm)
  have k5 := fun w hm => Lib.hid (Cas_no (old := old) (v := v) (w := w) hF (by omega) hm)
  have k6 := fun w hm => Lib.hid (Right_is (A := A) (n := N) (c := c) hr hNb w hm)
  have k7 := fun w hm => Lib.hid (rRight_is (A := A) (n := N) (c := c) hr hNb w hm)
  have H0 := Lib.hid hm0
  clear hm0 hc hr hF
  go_enter Try.func3, Try.ntmps3
  go_wp2_with fail
  refine (c0 _).out.mono ?_
  rintro e w0 ⟨rfl, b0⟩
  go_wp2_with fail
  refine (k1 _ (H0.out.gr b0)).out.mono ?_
  rintro e w1 ⟨rfl, b1⟩
  replace b1 := b0.trans b1
  clear b0
  go_wp2_with fail
  refine (k2 _ (H0.out.gr b1)).out.mono ?_
  rintro e w2 ⟨rfl, b2⟩
  replace b2 := b1.trans b2
  clear b1
  go_wp2_with fail
  refine (k3 _ (H0.out.gr b2)).out.mono ?_
  rintro e w3 ⟨rfl, b3⟩
  replace b3 := b2.trans b3
  clear b2
  go_wp2_with fail
  refine (k4 _ (H0.out.gr b3)).out.mono ?_
  rintro e w4 ⟨rfl, b4⟩
  replace b4 := b3.trans b4
  clear b3
  go_wp2_with fail
  refine (k5 _ (H0.out.gr b4)).out.mono ?_
  rintro e w5 ⟨rfl, b5⟩
  replace b5 := b4.trans b5
  clear b4
  go_wp2_with fail
  refine (k6 _ (H0.out.gr b5)).out.mono ?_
  rintro e w6 ⟨rfl, b6⟩
  replace b6 := b5.trans b6
  clear b5
  go_wp2_with fail
  refine (k7 _ (H0.out.gr b6)).out.mono ?_
  rintro e w7 ⟨rfl, b7⟩
  replace b7 := b6.trans b7
  clear b6
  go_wp2_with fail
  refine (alive2_ok _).mono ?_
  rintro e w8 ⟨rfl, b8⟩
  replace b8 := b7.trans b8
  clear b7
  go_wp2_with fail
  refine (hW _ (H0.out.gr b8)).mono ?_
  rintro e w9 ⟨rfl, b9⟩
  replace b9 := b8.trans b9
  clear b8
  go_wp2_with fail
  go_ret
  exact ⟨rfl, b9⟩

set_option maxHeartbeats 4000000 in
set_option maxRecDepth 100000 in
theorem ctells_3 {a v old : Int} (hn : n ≤ 9223372036854775807) (hc : n ≤ c) (hm0 : Mem w A (min n 70) l) (hr : rightB l = true) (hF : FindIs A (min n 70) c l a 0 0 3)
    (hW : ∀ w, Mem w A (min n 70) l → Calls Try.prog 15 #[.slice A (min n 70) c, .int .i64 a] w fun e w' => e = .returned (.int .i64 3) ∧ Gr w w') :
    Calls Try.prog 3 #[.slice A n c, .int .i64 a, .int .i64 v, .int .i64 old] w fun e w' => e = .returned (.bool true) ∧ Gr w w' := by
  have c0 := fun w => Lib.hid (few_ok A n c w hn hc)
  obtain ⟨N, hN⟩ : ∃ N, min n 70 = N := ⟨_, rfl⟩
  have hNb : N ≤ 9223372036854775807 := by omega
  rw [hN] at hF
  simp only [hN] at c0 hm0 hW
  clear hN
  have k1 := fun w hm => Lib.hid (Load_of hF w hm)
  have k2 := fun w hm => Lib.hid (Store_no (v := v) (w := w) hF (by omega) hm)
  have k3 := fun w hm => Lib.hid (Add2_no (v := v) (w := w) hF (by omega) hm)
  have k4 := fun w hm => Lib.hid (Swap_no (v := v) (w := w) hF (by omega) hm)
  have k5 := fun w hm => Lib.hid (Cas_no (old := old) (v := v) (w := w) hF (by omega) hm)
  have k6 := fun w hm => Lib.hid (Right_is (A := A) (n := N) (c := c) hr hNb w hm)
  have k7 := fun w hm => Lib.hid (rRight_is (A := A) (n := N) (c := c) hr hNb w hm)
  have H0 := Lib.hid hm0
  clear hm0 hc hr hF
  go_enter Try.func3, Try.ntmps3
  go_wp2_with fail
  refine (c0 _).out.mono ?_
  rintro e w0 ⟨rfl, b0⟩
  go_wp2_with fail
  refine (k1 _ (H0.out.gr b0)).out.mono ?_
  rintro e w1 ⟨rfl, b1⟩
  replace b1 := b0.trans b1
  clear b0
  go_wp2_with fail
  refine (k2 _ (H0.out.gr b1)).out.mono ?_
  rintro e w2 ⟨rfl, b2⟩
  replace b2 := b1.trans b2
  clear b1
  go_wp2_with fail
  refine (k3 _ (H0.out.gr b2)).out.mono ?_
  rintro e w3 ⟨rfl, b3⟩
  replace b3 := b2.trans b3
  clear b2
  go_wp2_with fail
  refine (k4 _ (H0.out.gr b3)).out.mono ?_
  rintro e w4 ⟨rfl, b4⟩
  replace b4 := b3.trans b4
  clear b3
  go_wp2_with fail
  refine (k5 _ (H0.out.gr b4)).out.mono ?_
  rintro e w5 ⟨rfl, b5⟩
  replace b5 := b4.trans b5
  clear b4
  go_wp2_with fail
  refine (k6 _ (H0.out.gr b5)).out.mono ?_
  rintro e w6 ⟨rfl, b6⟩
  replace b6 := b5.trans b6
  clear b5
  go_wp2_with fail
  refine (k7 _ (H0.out.gr b6)).out.mono ?_
  rintro e w7 ⟨rfl, b7⟩
  replace b7 := b6.trans b7
  clear b6
  go_wp2_with fail
  refine (alive2_ok _).mono ?_
  rintro e w8 ⟨rfl, b8⟩
  replace b8 := b7.trans b8
  clear b7
  go_wp2_with fail
  refine (hW _ (H0.out.gr b8)).mono ?_
  rintro e w9 ⟨rfl, b9⟩
  replace b9 := b8.trans b9
  clear b8
  go_wp2_with fail
  go_ret
  exact ⟨rfl, b9⟩

set_option maxHeartbeats 4000000 in
set_option maxRecDepth 100000 in
theorem ctells_hit {i : Nat} {x : Int × Int} {v old : Int} (hn : n ≤ 9223372036854775807) (hc : n ≤ c) (hm0 : Mem w A (min n 70) l) (hr : rightB l = true) (hx : l[i]? = some x) (hv : Inb v) (ho : Inb old) (hh : wd x.1 old = x.2) :
    Calls Try.prog 3 #[.slice A n c, .int .i64 i, .int .i64 v, .int .i64 old] w fun e w' => e = .returned (.bool true) ∧ Gr w w' := by
  have c0 := fun w => Lib.hid (few_ok A n c w hn hc)
  obtain ⟨N, hN⟩ : ∃ N, min n 70 = N := ⟨_, rfl⟩
  have hNb : N ≤ 9223372036854775807 := by omega
  simp only [hN] at c0 hm0
  clear hN
  have h64 := right_64 hr hm0
  have hi : i < N := by have := (List.getElem?_eq_some_iff.1 hx).1; have := hm0.1; omega
  obtain ⟨b, off, y, rfl, hbl, hy, h1, h2, q0, q1⟩ := hm0.at_ hi
  obtain rfl : x = y := by rw [hx] at hy; exact Option.some.inj hy
  obtain ⟨x1, x2⟩ := x
  dsimp only at hh q1
  obtain ⟨t, ht⟩ : ∃ t, wd x1 v = t := ⟨_, rfl⟩
  obtain ⟨s, hs⟩ : ∃ s, wd x1 (wrap64 (x2 + v)) = s := ⟨_, rfl⟩
  have k1 := fun w hm => Lib.hid (Load_of (FindIs.ok (A := some ⟨b, off, none⟩) (c := c) hNb hr hx) w hm)
  have k2 := fun w hm => Lib.hid (Store_ok (A := some ⟨b, off, none⟩) (c := c) (w := w) (n := N) hr hx hv hm)
  have k3 := fun w hm => Lib.hid (Add2_ok (A := some ⟨b, off, none⟩) (c := c) (w := w) (n := N) (d := v) hr hx hm)
  have k4 := fun w hm => Lib.hid (Swap_ok (A := some ⟨b, off, none⟩) (c := c) (w := w) (n := N) hr hx hv hm)
  have k5 := fun w hm => Lib.hid (Cas_hit (A := some ⟨b, off, none⟩) (c := c) (w := w) (n := N) hr hx ho hv hm hh)
  have k6 := fun w hm => Lib.hid (Right_is (A := some ⟨b, off, none⟩) (n := N) (c := c) hr hNb w hm)
  have k7 := fun w hm => Lib.hid (rRight_is (A := some ⟨b, off, none⟩) (n := N) (c := c) hr hNb w hm)
  have k8 := fun w hm => Lib.hid (Why_ok (A := some ⟨b, off, none⟩) (n := N) (c := c) (w := w) hNb hr hi hm)
  have r3 := fun w hm => Lib.hid (rAdd2_ok (A := some ⟨b, off, none⟩) (c := c) (w := w) (n := N) (d := v) h64 hr hx hm)
  have r4 := fun w hm => Lib.hid (rStore_ok (A := some ⟨b, off, none⟩) (c := c) (w := w) (n := N) h64 hr hx hv hm)
  have r5 := fun w hm => Lib.hid (rCas_hit (A := some ⟨b, off, none⟩) (c := c) (w := w) (n := N) h64 hr hx hv hm hh)
  simp only [ht, hs] at k2 k3 k4 k5 r3 r4 r5
  have s1 := fun w B D m hm hk => Lib.hid (Same_true B D N N m (l.set i (x1, t)) w hNb hm hk)
  have s2 := fun w B D m hm hk => Lib.hid (Same_true B D N N m (l.set i (x1, s)) w hNb hm hk)
  have s3 := fun w B D m hm hk => Lib.hid (Same_true B D N N m (l.set i (x1, t)) w hNb hm hk)
  have H0 := Lib.hid hm0
  have hi0 : (0 : Int) ≤ (i : Int) := by omega
  have hi1 : (i : Int) < (N : Int) := by omega
  have Q1 := Lib.hid q1
  clear hm0 hc hr hx hy ht hs hh q0 q1
  go_enter Try.func3, Try.ntmps3
  go_wp2_with fail
  refine (c0 _).out.mono ?_
  rintro e w0 ⟨rfl, b0⟩
  go_wp2_with fail
  refine (k1 _ (H0.out.gr b0)).out.mono ?_
  rintro e w1 ⟨rfl, b1⟩
  replace b1 := b0.trans b1
  clear b0
  go_wp2_with fail
  refine (k2 _ (H0.out.gr b1)).out.mono ?_
  rintro e w2 ⟨g2, rfl, m2, b2⟩
  go_wp2_with fail
  refine (k3 _ (H0.out.gr (b1.trans b2))).out.mono ?_
  rintro e w3 ⟨g3, rfl, m3, b3⟩
  go_wp2_with fail
  refine (k4 _ (H0.out.gr (b1.trans (b2.trans b3)))).out.mono ?_
  rintro e w4 ⟨g4, rfl, m4, b4⟩
  go_wp2_with fail
  refine (k5 _ (H0.out.gr (b1.trans (b2.trans (b3.trans b4))))).out.mono ?_
  rintro e w5 ⟨g5, rfl, m5, b5⟩
  replace m2 := m2.gr (b3.trans (b4.trans b5))
  replace m3 := m3.gr (b4.trans b5)
  replace m4 := m4.gr b5
  have B5 := b1.trans (b2.trans (b3.trans (b4.trans b5)))
  clear b1 b2 b3 b4 b5
  go_wp2_with fail
  refine (k6 _ (H0.out.gr B5)).out.mono ?_
  rintro e w6 ⟨rfl, b6⟩
  go_wp2_with fail
  refine (k7 _ (H0.out.gr (B5.trans b6))).out.mono ?_
  rintro e w7 ⟨rfl, b7⟩
  go_wp2_with fail
  refine (alive2_ok _).mono ?_
  rintro e w8 ⟨rfl, b8⟩
  go_wp2_with fail
  refine (k8 _ (H0.out.gr (B5.trans (b6.trans (b7.trans b8))))).out.mono ?_
  rintro e w9 ⟨rfl, b9⟩
  have c9 := b6.trans (b7.trans (b8.trans b9))
  have B9 := B5.trans c9
  replace m2 := m2.gr c9
  replace m3 := m3.gr c9
  replace m4 := m4.gr c9
  replace m5 := m5.gr c9
  clear b6 b7 b8 b9 c9 B5
  go_wp2_with fail
  refine (r3 _ (H0.out.gr B9)).out.mono ?_
  rintro e wa ⟨Ba, ca, rfl, ma, ba⟩
  go_wp2_with fail
  refine (r5 _ (H0.out.gr (B9.trans ba))).out.mono ?_
  rintro e wb ⟨Bb, cb, rfl, mb, bb⟩
  go_wp2_with fail
  refine (r4 _ (H0.out.gr (B9.trans (ba.trans bb)))).out.mono ?_
  rintro e wc ⟨Bc, cc, rfl, mc, bc⟩
  have cX := ba.trans (bb.trans bc)
  have BC := B9.trans cX
  replace m2 := m2.gr cX
  replace m3 := m3.gr cX
  replace m4 := m4.gr cX
  replace m5 := m5.gr cX
  replace ma := ma.gr (bb.trans bc)
  replace mb := mb.gr bc
  have q1 : wc.cell? ⟨b, off + i * 2 + 1, none⟩ = some (.int .i64 x2) := (BC.cell (p := ⟨b, off + i * 2 + 1, none⟩) hbl).trans Q1.out
  clear ba bb bc cX B9
  go_wp2_with fail
  refine (s1 _ _ _ _ m2 mc).out.mono ?_
  rintro e wd ⟨rfl, bd⟩
  clear q1
  go_wp2_with fail
  refine (s2 _ _ _ _ (m3.gr bd) (ma.gr bd)).out.mono ?_
  rintro e we ⟨rfl, be⟩
  go_wp2_with fail
  refine (s1 _ _ _ _ (m4.gr (bd.trans be)) (mc.gr (bd.trans be))).out.mono ?_
  rintro e wf ⟨rfl, bf⟩
  go_wp2_with fail
  refine (s3 _ _ _ _ (m5.gr (bd.trans (be.trans bf))) (mb.gr (bd.trans (be.trans bf)))).out.mono ?_
  rintro e wg ⟨rfl, bg⟩
  go_wp2_with fail
  go_ret
  exact ⟨rfl, BC.trans (bd.trans (be.trans (bf.trans bg)))⟩

set_option maxHeartbeats 4000000 in
set_option maxRecDepth 100000 in
theorem ctells_miss {i : Nat} {x : Int × Int} {v old : Int} (hn : n ≤ 9223372036854775807) (hc : n ≤ c) (hm0 : Mem w A (min n 70) l) (hr : rightB l = true) (hx : l[i]? = some x) (hv : Inb v) (ho : Inb old) (hh : wd x.1 old ≠ x.2) :
    Calls Try.prog 3 #[.slice A n c, .int .i64 i, .int .i64 v, .int .i64 old] w fun e w' => e = .returned (.bool true) ∧ Gr w w' := by
  have c0 := fun w => Lib.hid (few_ok A n c w hn hc)
  obtain ⟨N, hN⟩ : ∃ N, min n 70 = N := ⟨_, rfl⟩
  have hNb : N ≤ 9223372036854775807 := by omega
  simp only [hN] at c0 hm0
  clear hN
  have h64 := right_64 hr hm0
  have hi : i < N := by have := (List.getElem?_eq_some_iff.1 hx).1; have := hm0.1; omega
  obtain ⟨b, off, y, rfl, hbl, hy, h1, h2, q0, q1⟩ := hm0.at_ hi
  obtain rfl : x = y := by rw [hx] at hy; exact Option.some.inj hy
  obtain ⟨x1, x2⟩ := x
  dsimp only at hh q1
  obtain ⟨t, ht⟩ : ∃ t, wd x1 v = t := ⟨_, rfl⟩
  obtain ⟨s, hs⟩ : ∃ s, wd x1 (wrap64 (x2 + v)) = s := ⟨_, rfl⟩
  have k1 := fun w hm => Lib.hid (Load_of (FindIs.ok (A := some ⟨b, off, none⟩) (c := c) hNb hr hx) w hm)
  have k2 := fun w hm => Lib.hid (Store_ok (A := some ⟨b, off, none⟩) (c := c) (w := w) (n := N) hr hx hv hm)
  have k3 := fun w hm => Lib.hid (Add2_ok (A := some ⟨b, off, none⟩) (c := c) (w := w) (n := N) (d := v) hr hx hm)
  have k4 := fun w hm => Lib.hid (Swap_ok (A := some ⟨b, off, none⟩) (c := c) (w := w) (n := N) hr hx hv hm)
  have k5 := fun w hm => Lib.hid (show Calls Try.prog 11 #[.slice (some ⟨b, off, none⟩) N c, .int .i64 i, .int .i64 old, .int .i64 v] w (GotMem w N l (.bool false)) from by have h := Cas_miss (A := some ⟨b, off, none⟩) (c := c) (w := w) (n := N) hr hx ho hv hm hh; rwa [set_self' hx] at h)
  have k6 := fun w hm => Lib.hid (Right_is (A := some ⟨b, off, none⟩) (n := N) (c := c) hr hNb w hm)
  have k7 := fun w hm => Lib.hid (rRight_is (A := some ⟨b, off, none⟩) (n := N) (c := c) hr hNb w hm)
  have k8 := fun w hm => Lib.hid (Why_ok (A := some ⟨b, off, none⟩) (n := N) (c := c) (w := w) hNb hr hi hm)
  have r3 := fun w hm => Lib.hid (rAdd2_ok (A := some ⟨b, off, none⟩) (c := c) (w := w) (n := N) (d := v) h64 hr hx hm)
  have r4 := fun w hm => Lib.hid (rStore_ok (A := some ⟨b, off, none⟩) (c := c) (w := w) (n := N) h64 hr hx hv hm)
  have r5 := fun w hm => Lib.hid (rCas_miss (A := some ⟨b, off, none⟩) (c := c) (w := w) (n := N) (v := v) hr hx hm hh)
  simp only [ht, hs] at k2 k3 k4 k5 r3 r4 r5
  have s1 := fun w B D m hm hk => Lib.hid (Same_true B D N N m (l.set i (x1, t)) w hNb hm hk)
  have s2 := fun w B D m hm hk => Lib.hid (Same_true B D N N m (l.set i (x1, s)) w hNb hm hk)
  have s3 := fun w B D m hm hk => Lib.hid (Same_true B D N N m (l) w hNb hm hk)
  have H0 := Lib.hid hm0
  have hi0 : (0 : Int) ≤ (i : Int) := by omega
  have hi1 : (i : Int) < (N : Int) := by omega
  have Q1 := Lib.hid q1
  clear hm0 hc hr hx hy ht hs hh q0 q1
  go_enter Try.func3, Try.ntmps3
  go_wp2_with fail
  refine (c0 _).out.mono ?_
  rintro e w0 ⟨rfl, b0⟩
  go_wp2_with fail
  refine (k1 _ (H0.out.gr b0)).out.mono ?_
  rintro e w1 ⟨rfl, b1⟩
  replace b1 := b0.trans b1
  clear b0
  go_wp2_with fail
  refine (k2 _ (H0.out.gr b1)).out.mono ?_
  rintro e w2 ⟨g2, rfl, m2, b2⟩
  go_wp2_with fail
  refine (k3 _ (H0.out.gr (b1.trans b2))).out.mono ?_
  rintro e w3 ⟨g3, rfl, m3, b3⟩
  go_wp2_with fail
  refine (k4 _ (H0.out.gr (b1.trans (b2.trans b3)))).out.mono ?_
  rintro e w4 ⟨g4, rfl, m4, b4⟩
  go_wp2_with fail
  refine (k5 _ (H0.out.gr (b1.trans (b2.trans (b3.trans b4))))).out.mono ?_
  rintro e w5 ⟨g5, rfl, m5, b5⟩
  replace m2 := m2.gr (b3.trans (b4.trans b5))
  replace m3 := m3.gr (b4.trans b5)
  replace m4 := m4.gr b5
  have B5 := b1.trans (b2.trans (b3.trans (b4.trans b5)))
  clear b1 b2 b3 b4 b5
  go_wp2_with fail
  refine (k6 _ (H0.out.gr B5)).out.mono ?_
  rintro e w6 ⟨rfl, b6⟩
  go_wp2_with fail
  refine (k7 _ (H0.out.gr (B5.trans b6))).out.mono ?_
  rintro e w7 ⟨rfl, b7⟩
  go_wp2_with fail
  refine (alive2_ok _).mono ?_
  rintro e w8 ⟨rfl, b8⟩
  go_wp2_with fail
  refine (k8 _ (H0.out.gr (B5.trans (b6.trans (b7.trans b8))))).out.mono ?_
  rintro e w9 ⟨rfl, b9⟩
  have c9 := b6.trans (b7.trans (b8.trans b9))
  have B9 := B5.trans c9
  replace m2 := m2.gr c9
  replace m3 := m3.gr c9
  replace m4 := m4.gr c9
  replace m5 := m5.gr c9
  clear b6 b7 b8 b9 c9 B5
  go_wp2_with fail
  refine (r3 _ (H0.out.gr B9)).out.mono ?_
  rintro e wa ⟨Ba, ca, rfl, ma, ba⟩
  go_wp2_with fail
  refine (r5 _ (H0.out.gr (B9.trans ba))).out.mono ?_
  rintro e wb ⟨Bb, cb, rfl, mb, bb⟩
  go_wp2_with fail
  refine (r4 _ (H0.out.gr (B9.trans (ba.trans bb)))).out.mono ?_
  rintro e wc ⟨Bc, cc, rfl, mc, bc⟩
  have cX := ba.trans (bb.trans bc)
  have BC := B9.trans cX
  replace m2 := m2.gr cX
  replace m3 := m3.gr cX
  replace m4 := m4.gr cX
  replace m5 := m5.gr cX
  replace ma := ma.gr (bb.trans bc)
  replace mb := mb.gr bc
  have q1 : wc.cell? ⟨b, off + i * 2 + 1, none⟩ = some (.int .i64 x2) := (BC.cell (p := ⟨b, off + i * 2 + 1, none⟩) hbl).trans Q1.out
  clear ba bb bc cX B9
  go_wp2_with fail
  refine (s1 _ _ _ _ m2 mc).out.mono ?_
  rintro e wd ⟨rfl, bd⟩
  clear q1
  go_wp2_with fail
  refine (s2 _ _ _ _ (m3.gr bd) (ma.gr bd)).out.mono ?_
  rintro e we ⟨rfl, be⟩
  go_wp2_with fail
  refine (s1 _ _ _ _ (m4.gr (bd.trans be)) (mc.gr (bd.trans be))).out.mono ?_
  rintro e wf ⟨rfl, bf⟩
  go_wp2_with fail
  refine (s3 _ _ _ _ (m5.gr (bd.trans (be.trans bf))) (mb.gr (bd.trans (be.trans bf)))).out.mono ?_
  rintro e wg ⟨rfl, bg⟩
  go_wp2_with fail
  go_ret
  exact ⟨rfl, BC.trans (bd.trans (be.trans (bf.trans bg)))⟩

theorem CellTells_walk (w : World) (A : Option Addr) (n c : Nat) (l : List (Int × Int)) (hc : n ≤ c) (hn : n ≤ 9223372036854775807) (hm : Mem w A n l) (a : Int) (_ha : Inb a) (v : Int) (hv : Inb v) (old : Int) (ho : Inb old) :
    Calls Try.prog 3 #[.slice A n c, .int .i64 a, .int .i64 v, .int .i64 old] w fun e w' => e = .returned (.bool true) ∧ Gr w w' := by
  have h0 := hm.take_ (min n 70) (by omega)
  generalize l.take (min n 70) = L at h0
  have hN : min n 70 ≤ 9223372036854775807 := by omega
  cases hr : rightB L
  · exact ctells_1 hn hc h0 hr (FindIs.arg hN hr) (fun w hm => Why_arg hN hr hm)
  · by_cases ha : a < 0 ∨ (min n 70 : Nat) ≤ a
    · exact ctells_3 hn hc h0 hr (FindIs.range hN hr ha) (fun w hm => Why_range hN hr ha hm)
    · obtain ⟨i, x, rfl, hx, hi⟩ := get_in h0.1 (a := a) (by omega) (by omega)
      by_cases hh : wd x.1 old = x.2
      · exact ctells_hit hn hc h0 hr hx hv ho hh
      · exact ctells_miss hn hc h0 hr hx hv ho hh
end
set_option maxRecDepth 100000 in
theorem CellTells_lifted (os : Os) (started : os.Started) (H : Type) (enc : TypeId × Value → H) :
    ReturnsInHanded {} Try.checked os 3 .any (Rows.cellTellsSpec.pre6 enc Try.prog Try.f3 Rows.cellTellsRow.domain false) (Rows.cellTellsSpec.post enc Try.prog Try.f3 false true false false) := by
  refine returnsInHanded_of_change (C := Try.checked) own started (by kernel_rfl) Try.func3
    (ChangeSpec.witness6 (enc := enc) (C := Try.checked) false ⟨#[], #[.slice none 0 0, .int .i64 0, .int .i64 0, .int .i64 0], []⟩ 8 (by kernel_rfl) (by kernel_rfl) (by kernel_rfl) (by kernel_rfl)) ?_
  intro W base args ds gs before hval0 hW hcnd _
  have hval : ∀ (j : Nat) t v, Try.f3.params[j]? = some t → args[j]? = some v → Value.okWide Try.prog W .any base t v := hval0
  have hW' := hW
  obtain ⟨p, q, hA0, hV, rfl, hfz, hnd⟩ := hW
  have hA : DataW.TrodAll enc Try.prog W 0 (fun _ => true) true Try.f3.params.toList args.toList ds p := hA0
  rw [Try.params3] at hA hval
  have hK := hA
  obtain ⟨v0, vs0, d0, ds0, p0, q0, hargs, rfl, hp, h0, r0⟩ := trodAll_cons hA
  obtain ⟨v1, vs1, d1, ds1, p1, q1, rfl, rfl, rfl, h1, r1⟩ := trodAll_cons r0
  obtain ⟨v2, vs2, d2, ds2, p2, q2, rfl, rfl, rfl, h2, r2⟩ := trodAll_cons r1
  obtain ⟨v3, vs3, d3, ds3, p3, q3, rfl, rfl, rfl, h3, r3⟩ := trodAll_cons r2
  obtain ⟨rfl, rfl, rfl⟩ := trodAll_nil r3
  obtain rfl : args = #[v0, v1, v2, v3] := by cases args; simp_all
  obtain ⟨rfl, rfl⟩ := trodVars_none hV
  obtain ⟨A0, n0, c0, l0, rfl, hc0, hn0, hm0⟩ := open_cells (hval 0 22 v0 rfl rfl) h0
  obtain ⟨a1, rfl, rfl, rfl, w1⟩ := open_int Try.underlying3 (hval 1 3 v1 rfl rfl) h1
  obtain ⟨a2, rfl, rfl, rfl, w2⟩ := open_int Try.underlying3 (hval 2 3 v2 rfl rfl) h2
  obtain ⟨a3, rfl, rfl, rfl, w3⟩ := open_int Try.underlying3 (hval 3 3 v3 rfl rfl) h3
  clear hA0 hval0
  refine (CellTells_walk W A0 n0 c0 l0 hc0 hn0 hm0 a1 (wfb w1) a2 (wfb w2) a3 (wfb w3)).mono fun e W' ⟨he, hg⟩ => ?_
  subst he
  exact ⟨_, rfl, post_below (pa := p) (pv := []) hW' (fun _ _ _ => (trodAll_cons_mk (shut_bool Try.underlying4 _) trodAll_mk0))
    (fun sp hs => trodAll_stays laidOut hg sp (by kernel_rfl) hK (fun x hx => hW'.lt x (List.mem_append_left _ hx)) (fun x hx => hs x (List.mem_append_left _ hx))) (fun _ _ => rfl) rfl
    hg (ok_one (by kernel_rfl) rfl (okWide_bool_mk Try.underlying4 _))⟩

theorem CellTells_over : Rows.cellTellsRow.holds Try.pinned (OpenSpec.ofChange Rows.cellTellsSpec) :=
  OpenClaim.holds_of_wide 3 Try.f3 rfl rfl rfl rfl rfl rfl rfl ⟨rfl, rfl, rfl, rfl, rfl⟩ rfl rfl rfl rfl rfl (by kernel_rfl) Try.func3 (by kernel_rfl)
    (of_decide_eq_true (by kernel_rfl)) (by unfold Func.isWrapper; first | (rw [if_pos (by decide +kernel)]; kernel_rfl) | (rw [if_neg (by decide +kernel)]; exact ⟨rfl, rfl⟩))
    (fun os started H enc _ => CellTells_lifted os started H enc)

/-- The statement. -/
theorem CellTells_holds : Rows.CellTellsSaid :=
  CellTells_over
#print axioms CellTells_holds
end Go.Proofs.Ytcfgkldlhlnniaa
