/-
  Proved: deadboltlaw02.CellApart returns true at every input (an access changes its cell alone; swapped back all is as it was). No condition.
-/
import Derived.Test.YtcfgkldlhlnniaaCellOrd
import Derived.Test.YtcfgkldlhlnniaaEnds
import Derived.Test.YtcfgkldlhlnniaaOpenCells
namespace Go.Proofs.Ytcfgkldlhlnniaa
open Go.ChangeShapes Go.WideShapes Go.ChangeAt Go.RowKit
set_option linter.unusedVariables false

section
variable {A : Option Addr} {n c : Nat} {l : List (Int × Int)} {w : World}

/-- Load answers the word q and the error e. -/
def LoadIs (A : Option Addr) (n c : Nat) (l : List (Int × Int)) (i q e : Int) : Prop :=
  ∀ w, Mem w A n l → Calls Try.prog 7 #[.slice A n c, .int .i64 i] w fun ee w' => ee = .returned (.tuple #[.int .i64 q, .int .i64 e]) ∧ Gr w w'
theorem FindIs.load {i p q e : Int} (h : FindIs A n c l i p q e) : LoadIs A n c l i q e := fun w hm => Load_of h w hm

theorem two_adds (k x v d : Int) : wd k (wrap64 (wd k (wrap64 (x + v)) + d)) = wd k (wrap64 (wd k (wrap64 (x + d)) + v)) := by
  rw [wd_left, wd_w64l, wd_left, wd_w64l, Int.add_right_comm]
theorem set_back {i : Nat} {x : Int × Int} {y : Int × Int} (h : l[i]? = some x) : (l.set i y).set i (x.1, x.2) = l := by
  rw [List.set_set]
  obtain ⟨hi, rfl⟩ := List.getElem?_eq_some_iff.1 h
  exact List.set_getElem_self hi

set_option maxHeartbeats 4000000 in
set_option maxRecDepth 100000 in
theorem apart_same {i : Nat} {x : Int × Int} {v d s u t : Int} (hn : n ≤ 9223372036854775807) (hc : n ≤ c) (hm0 : Mem w A (min n 70) l) (hr : rightB l = true) (hx : l[i]? = some x) (hv : Inb v) (hd : Inb d)
    (L1 : LoadIs A (min n 70) c l i s t) (L2 : ∀ (B : Option Addr), LoadIs B (min n 70) (min n 70) (l.set i (x.1, wd x.1 (wrap64 (wd x.1 (wrap64 (x.2 + v)) + d)))) i u t) :
    Calls Try.prog 4 #[.slice A n c, .int .i64 i, .int .i64 i, .int .i64 v, .int .i64 d] w fun e w' => e = .returned (.bool true) ∧ Gr w w' := by
  have hkx := fit_kind (right_fit hr hx)
  have c0 := fun w => Lib.hid (few_ok A n c w hn hc)
  obtain ⟨N, hN⟩ : ∃ N, min n 70 = N := ⟨_, rfl⟩
  rw [hN] at L1 L2
  simp only [hN] at c0 hm0
  clear hN
  have h64 := right_64 hr hm0
  have hNb : N ≤ 9223372036854775807 := by omega
  obtain ⟨x1, x2⟩ := x
  dsimp only at L2 hkx
  have fx : fitB x1 x2 = true := right_fit hr hx
  have ix := (hm0.fits hx).2
  dsimp only at ix
  obtain ⟨s1, hs1⟩ : ∃ s, wd x1 (wrap64 (x2 + v)) = s := ⟨_, rfl⟩
  obtain ⟨u1, hu1⟩ : ∃ s, wd x1 (wrap64 (x2 + d)) = s := ⟨_, rfl⟩
  obtain ⟨s2, hs2⟩ : ∃ s, wd x1 (wrap64 (s1 + d)) = s := ⟨_, rfl⟩
  have hu2 : wd x1 (wrap64 (u1 + v)) = s2 := by rw [← hs2, ← hu1, ← hs1]; exact (two_adds x1 x2 v d).symm
  rw [hs1, hs2] at L2
  obtain ⟨t1, ht1⟩ : ∃ s, wd x1 v = s := ⟨_, rfl⟩
  have f1 : fitB x1 s1 = true := hs1 ▸ wd_fits _ _ hkx
  have f2 : fitB x1 u1 = true := hu1 ▸ wd_fits _ _ hkx
  have ft : fitB x1 t1 = true := ht1 ▸ wd_fits _ _ hkx
  have r1 : rightB (l.set i (x1, t1)) = true := right_set (x := (x1, x2)) hr ft
  have r2 : rightB (l.set i (x1, s1)) = true := right_set (x := (x1, x2)) hr f1
  have r3 : rightB (l.set i (x1, u1)) = true := right_set (x := (x1, x2)) hr f2
  have g1 : (l.set i (x1, t1))[i]? = some (x1, t1) := get_set_eq hx
  have g2 : (l.set i (x1, s1))[i]? = some (x1, s1) := get_set_eq hx
  have g3 : (l.set i (x1, u1))[i]? = some (x1, u1) := get_set_eq hx
  have k1 : LoadIs A N c l i x2 0 := (FindIs.ok hNb hr hx).load
  have k2 : ∀ w, Mem w A N l → Hid (Calls Try.prog 10 #[.slice A N c, .int .i64 i, .int .i64 v] w (GotMem w N (l.set i (x1, t1)) (.int .i64 x2))) := fun w hm => Lib.hid (by have h := Swap_ok (c := c) hr hx hv hm; dsimp only at h; rwa [ht1] at h)
  have k3 : ∀ w B, Mem w B N (l.set i (x1, t1)) → Hid (Calls Try.prog 10 #[.slice B N N, .int .i64 i, .int .i64 x2] w (GotMem w N l (.int .i64 t1))) := fun w B hm => Lib.hid (by
    have h := Swap_ok (c := N) r1 g1 ix hm
    dsimp only at h
    rwa [fit_is fx, set_back (x := (x1, x2)) hx] at h)
  have k4 : ∀ w, Mem w A N l → Hid (Calls Try.prog 11 #[.slice A N c, .int .i64 i, .int .i64 x2, .int .i64 v] w (GotMem w N (l.set i (x1, t1)) (.bool true))) := fun w hm => Lib.hid (by
    have h := Cas_hit (c := c) hr hx ix hv hm (fit_is fx)
    dsimp only at h
    rwa [ht1] at h)
  have k5 : ∀ B, LoadIs B N N (l.set i (x1, t1)) i t1 0 := fun B => (FindIs.ok hNb r1 g1).load
  have k6 := fun w B D hm hk => Lib.hid (Same_true B D N N N (l.set i (x1, t1)) w hNb hm hk)
  have k7 := fun w B hm hk => Lib.hid (Same_true B A N N c l w hNb hm hk)
  have k8 := fun w B hm => Lib.hid (Right_is (A := B) (n := N) (c := N) r1 hNb w hm)
  have p1 : ∀ w, Mem w A N l → Hid (Calls Try.prog 9 #[.slice A N c, .int .i64 i, .int .i64 v] w (GotMem w N (l.set i (x1, s1)) (.int .i64 s1))) := fun w hm => Lib.hid (by have h := Add2_ok (c := c) (d := v) hr hx hm; dsimp only at h; rwa [hs1] at h)
  have p2 : ∀ w B, Mem w B N (l.set i (x1, s1)) → Hid (Calls Try.prog 9 #[.slice B N N, .int .i64 i, .int .i64 d] w (GotMem w N (l.set i (x1, s2)) (.int .i64 s2))) := fun w B hm => Lib.hid (by
    have h := Add2_ok (c := N) (d := d) r2 g2 hm
    dsimp only at h
    rwa [hs2, List.set_set] at h)
  have p3 : ∀ w, Mem w A N l → Hid (Calls Try.prog 9 #[.slice A N c, .int .i64 i, .int .i64 d] w (GotMem w N (l.set i (x1, u1)) (.int .i64 u1))) := fun w hm => Lib.hid (by have h := Add2_ok (c := c) (d := d) hr hx hm; dsimp only at h; rwa [hu1] at h)
  have p4 : ∀ w B, Mem w B N (l.set i (x1, u1)) → Hid (Calls Try.prog 9 #[.slice B N N, .int .i64 i, .int .i64 v] w (GotMem w N (l.set i (x1, s2)) (.int .i64 s2))) := fun w B hm => Lib.hid (by
    have h := Add2_ok (c := N) (d := v) r3 g3 hm
    dsimp only at h
    rwa [hu2, List.set_set] at h)
  have p5 := fun w B D hm hk => Lib.hid (Same_true B D N N N (l.set i (x1, s2)) w hNb hm hk)
  have H0 := Lib.hid hm0
  clear hm0 hr hx hs1 hu1 hs2 hu2 ht1 f1 f2 ft fx r1 r2 r3 g1 g2 g3 h64 hc
  go_enter Try.func4, Try.ntmps4
  go_wp2_with fail
  refine (c0 _).out.mono ?_
  rintro e w0 ⟨rfl, b0⟩
  go_wp2_with fail
  refine (k1 _ (H0.out.gr b0)).mono ?_
  rintro e w1 ⟨rfl, b1⟩
  have B1 := b0.trans b1
  clear b0 b1
  go_wp2_with fail
  refine (k2 _ (H0.out.gr B1)).out.mono ?_
  rintro e w2 ⟨g2, rfl, m2, b2⟩
  go_wp2_with fail
  refine (k3 _ _ m2).out.mono ?_
  rintro e w3 ⟨g3, rfl, m3, b3⟩
  go_wp2_with fail
  refine (k4 _ (H0.out.gr (B1.trans (b2.trans b3)))).out.mono ?_
  rintro e w4 ⟨g4, rfl, m4, b4⟩
  go_wp2_with fail
  refine (k5 _ _ (m2.gr (b3.trans b4))).mono ?_
  rintro e w5 ⟨rfl, b5⟩
  have B5 := B1.trans (b2.trans (b3.trans (b4.trans b5)))
  replace m2 := m2.gr (b3.trans (b4.trans b5))
  replace m3 := m3.gr (b4.trans b5)
  replace m4 := m4.gr b5
  clear b2 b3 b4 b5 B1
  go_wp2_with fail
  refine (k6 _ _ _ m2 m4).out.mono ?_
  rintro e w6 ⟨rfl, b6⟩
  go_wp2_with fail
  refine (k7 _ _ (m3.gr b6) (H0.out.gr (B5.trans b6))).out.mono ?_
  rintro e w7 ⟨rfl, b7⟩
  go_wp2_with fail
  refine (k8 _ _ (m2.gr (b6.trans b7))).out.mono ?_
  rintro e w8 ⟨rfl, b8⟩
  have B8 := B5.trans (b6.trans (b7.trans b8))
  clear b6 b7 b8 B5 m2 m3 m4
  go_wp2_with fail
  refine (p1 _ (H0.out.gr B8)).out.mono ?_
  rintro e w9 ⟨g9, rfl, m9, b9⟩
  go_wp2_with fail
  refine (p2 _ _ m9).out.mono ?_
  rintro e wa ⟨ga, rfl, ma, ba⟩
  go_wp2_with fail
  refine (p3 _ (H0.out.gr (B8.trans (b9.trans ba)))).out.mono ?_
  rintro e wb ⟨gb, rfl, mb, bb⟩
  go_wp2_with fail
  refine (p4 _ _ mb).out.mono ?_
  rintro e wc ⟨gc, rfl, mc, bc⟩
  have BC := B8.trans (b9.trans (ba.trans (bb.trans bc)))
  replace ma := ma.gr (bb.trans bc)
  clear b9 ba bb bc B8 m9 mb
  go_wp2_with fail
  refine (p5 _ _ _ ma mc).out.mono ?_
  rintro e wd ⟨rfl, bd⟩
  go_wp2_with fail
  refine (L1 _ (H0.out.gr (BC.trans bd))).mono ?_
  rintro e we ⟨rfl, be⟩
  go_wp2_with fail
  refine (L2 _ _ (ma.gr (bd.trans be))).mono ?_
  rintro e wf ⟨rfl, bf⟩
  go_wp2_with fail
  refine (alive2_ok _).mono ?_
  rintro e wg ⟨rfl, bg⟩
  go_wp2_with fail
  go_ret
  exact ⟨rfl, BC.trans (bd.trans (be.trans (bf.trans bg)))⟩

set_option maxHeartbeats 4000000 in
set_option maxRecDepth 100000 in
theorem apart_ne {i : Nat} {x : Int × Int} {v d b s u t : Int} (hn : n ≤ 9223372036854775807) (hc : n ≤ c) (hm0 : Mem w A (min n 70) l) (hr : rightB l = true) (hx : l[i]? = some x) (hv : Inb v) (hd : Inb d)
    (L1 : LoadIs A (min n 70) c l b s t) (L2 : ∀ (B : Option Addr), LoadIs B (min n 70) (min n 70) (l.set i (x.1, wd x.1 (wrap64 (wd x.1 (wrap64 (x.2 + v)) + d)))) b u t) (hb : (b == (i : Int)) = false) (hsu : s = u) :
    Calls Try.prog 4 #[.slice A n c, .int .i64 i, .int .i64 b, .int .i64 v, .int .i64 d] w fun e w' => e = .returned (.bool true) ∧ Gr w w' := by
  subst hsu
  have hkx := fit_kind (right_fit hr hx)
  have c0 := fun w => Lib.hid (few_ok A n c w hn hc)
  obtain ⟨N, hN⟩ : ∃ N, min n 70 = N := ⟨_, rfl⟩
  rw [hN] at L1 L2
  simp only [hN] at c0 hm0
  clear hN
  have h64 := right_64 hr hm0
  have hNb : N ≤ 9223372036854775807 := by omega
  obtain ⟨x1, x2⟩ := x
  dsimp only at L2 hkx
  have fx : fitB x1 x2 = true := right_fit hr hx
  have ix := (hm0.fits hx).2
  dsimp only at ix
  obtain ⟨s1, hs1⟩ : ∃ s, wd x1 (wrap64 (x2 + v)) = s := ⟨_, rfl⟩
  obtain ⟨u1, hu1⟩ : ∃ s, wd x1 (wrap64 (x2 + d)) = s := ⟨_, rfl⟩
  obtain ⟨s2, hs2⟩ : ∃ s, wd x1 (wrap64 (s1 + d)) = s := ⟨_, rfl⟩
  have hu2 : wd x1 (wrap64 (u1 + v)) = s2 := by rw [← hs2, ← hu1, ← hs1]; exact (two_adds x1 x2 v d).symm
  rw [hs1, hs2] at L2
  obtain ⟨t1, ht1⟩ : ∃ s, wd x1 v = s := ⟨_, rfl⟩
  have f1 : fitB x1 s1 = true := hs1 ▸ wd_fits _ _ hkx
  have f2 : fitB x1 u1 = true := hu1 ▸ wd_fits _ _ hkx
  have ft : fitB x1 t1 = true := ht1 ▸ wd_fits _ _ hkx
  have r1 : rightB (l.set i (x1, t1)) = true := right_set (x := (x1, x2)) hr ft
  have r2 : rightB (l.set i (x1, s1)) = true := right_set (x := (x1, x2)) hr f1
  have r3 : rightB (l.set i (x1, u1)) = true := right_set (x := (x1, x2)) hr f2
  have g1 : (l.set i (x1, t1))[i]? = some (x1, t1) := get_set_eq hx
  have g2 : (l.set i (x1, s1))[i]? = some (x1, s1) := get_set_eq hx
  have g3 : (l.set i (x1, u1))[i]? = some (x1, u1) := get_set_eq hx
  have k1 : LoadIs A N c l i x2 0 := (FindIs.ok hNb hr hx).load
  have k2 : ∀ w, Mem w A N l → Hid (Calls Try.prog 10 #[.slice A N c, .int .i64 i, .int .i64 v] w (GotMem w N (l.set i (x1, t1)) (.int .i64 x2))) := fun w hm => Lib.hid (by have h := Swap_ok (c := c) hr hx hv hm; dsimp only at h; rwa [ht1] at h)
  have k3 : ∀ w B, Mem w B N (l.set i (x1, t1)) → Hid (Calls Try.prog 10 #[.slice B N N, .int .i64 i, .int .i64 x2] w (GotMem w N l (.int .i64 t1))) := fun w B hm => Lib.hid (by
    have h := Swap_ok (c := N) r1 g1 ix hm
    dsimp only at h
    rwa [fit_is fx, set_back (x := (x1, x2)) hx] at h)
  have k4 : ∀ w, Mem w A N l → Hid (Calls Try.prog 11 #[.slice A N c, .int .i64 i, .int .i64 x2, .int .i64 v] w (GotMem w N (l.set i (x1, t1)) (.bool true))) := fun w hm => Lib.hid (by
    have h := Cas_hit (c := c) hr hx ix hv hm (fit_is fx)
    dsimp only at h
    rwa [ht1] at h)
  have k5 : ∀ B, LoadIs B N N (l.set i (x1, t1)) i t1 0 := fun B => (FindIs.ok hNb r1 g1).load
  have k6 := fun w B D hm hk => Lib.hid (Same_true B D N N N (l.set i (x1, t1)) w hNb hm hk)
  have k7 := fun w B hm hk => Lib.hid (Same_true B A N N c l w hNb hm hk)
  have k8 := fun w B hm => Lib.hid (Right_is (A := B) (n := N) (c := N) r1 hNb w hm)
  have p1 : ∀ w, Mem w A N l → Hid (Calls Try.prog 9 #[.slice A N c, .int .i64 i, .int .i64 v] w (GotMem w N (l.set i (x1, s1)) (.int .i64 s1))) := fun w hm => Lib.hid (by have h := Add2_ok (c := c) (d := v) hr hx hm; dsimp only at h; rwa [hs1] at h)
  have p2 : ∀ w B, Mem w B N (l.set i (x1, s1)) → Hid (Calls Try.prog 9 #[.slice B N N, .int .i64 i, .int .i64 d] w (GotMem w N (l.set i (x1, s2)) (.int .i64 s2))) := fun w B hm => Lib.hid (by
    have h := Add2_ok (c := N) (d := d) r2 g2 hm
    dsimp only at h
    rwa [hs2, List.set_set] at h)
  have p3 : ∀ w, Mem w A N l → Hid (Calls Try.prog 9 #[.slice A N c, .int .i64 i, .int .i64 d] w (GotMem w N (l.set i (x1, u1)) (.int .i64 u1))) := fun w hm => Lib.hid (by have h := Add2_ok (c := c) (d := d) hr hx hm; dsimp only at h; rwa [hu1] at h)
  have p4 : ∀ w B, Mem w B N (l.set i (x1, u1)) → Hid (Calls Try.prog 9 #[.slice B N N, .int .i64 i, .int .i64 v] w (GotMem w N (l.set i (x1, s2)) (.int .i64 s2))) := fun w B hm => Lib.hid (by
    have h := Add2_ok (c := N) (d := v) r3 g3 hm
    dsimp only at h
    rwa [hu2, List.set_set] at h)
  have p5 := fun w B D hm hk => Lib.hid (Same_true B D N N N (l.set i (x1, s2)) w hNb hm hk)
  have H0 := Lib.hid hm0
  clear hm0 hr hx hs1 hu1 hs2 hu2 ht1 f1 f2 ft fx r1 r2 r3 g1 g2 g3 h64 hc
  go_enter Try.func4, Try.ntmps4
  go_wp2_with fail
  refine (c0 _).out.mono ?_
  rintro e w0 ⟨rfl, b0⟩
  go_wp2_with fail
  refine (k1 _ (H0.out.gr b0)).mono ?_
  rintro e w1 ⟨rfl, b1⟩
  have B1 := b0.trans b1
  clear b0 b1
  go_wp2_with fail
  refine (k2 _ (H0.out.gr B1)).out.mono ?_
  rintro e w2 ⟨g2, rfl, m2, b2⟩
  go_wp2_with fail
  refine (k3 _ _ m2).out.mono ?_
  rintro e w3 ⟨g3, rfl, m3, b3⟩
  go_wp2_with fail
  refine (k4 _ (H0.out.gr (B1.trans (b2.trans b3)))).out.mono ?_
  rintro e w4 ⟨g4, rfl, m4, b4⟩
  go_wp2_with fail
  refine (k5 _ _ (m2.gr (b3.trans b4))).mono ?_
  rintro e w5 ⟨rfl, b5⟩
  have B5 := B1.trans (b2.trans (b3.trans (b4.trans b5)))
  replace m2 := m2.gr (b3.trans (b4.trans b5))
  replace m3 := m3.gr (b4.trans b5)
  replace m4 := m4.gr b5
  clear b2 b3 b4 b5 B1
  go_wp2_with fail
  refine (k6 _ _ _ m2 m4).out.mono ?_
  rintro e w6 ⟨rfl, b6⟩
  go_wp2_with fail
  refine (k7 _ _ (m3.gr b6) (H0.out.gr (B5.trans b6))).out.mono ?_
  rintro e w7 ⟨rfl, b7⟩
  go_wp2_with fail
  refine (k8 _ _ (m2.gr (b6.trans b7))).out.mono ?_
  rintro e w8 ⟨rfl, b8⟩
  have B8 := B5.trans (b6.trans (b7.trans b8))
  clear b6 b7 b8 B5 m2 m3 m4
  go_wp2_with fail
  refine (p1 _ (H0.out.gr B8)).out.mono ?_
  rintro e w9 ⟨g9, rfl, m9, b9⟩
  go_wp2_with fail
  refine (p2 _ _ m9).out.mono ?_
  rintro e wa ⟨ga, rfl, ma, ba⟩
  go_wp2_with fail
  refine (p3 _ (H0.out.gr (B8.trans (b9.trans ba)))).out.mono ?_
  rintro e wb ⟨gb, rfl, mb, bb⟩
  go_wp2_with fail
  refine (p4 _ _ mb).out.mono ?_
  rintro e wc ⟨gc, rfl, mc, bc⟩
  have BC := B8.trans (b9.trans (ba.trans (bb.trans bc)))
  replace ma := ma.gr (bb.trans bc)
  clear b9 ba bb bc B8 m9 mb
  go_wp2_with fail
  refine (p5 _ _ _ ma mc).out.mono ?_
  rintro e wd ⟨rfl, bd⟩
  go_wp2_with fail
  refine (L1 _ (H0.out.gr (BC.trans bd))).mono ?_
  rintro e we ⟨rfl, be⟩
  go_wp2_with fail
  refine (L2 _ _ (ma.gr (bd.trans be))).mono ?_
  rintro e wf ⟨rfl, bf⟩
  go_wp2_with fail
  refine (alive2_ok _).mono ?_
  rintro e wg ⟨rfl, bg⟩
  go_wp2_with fail
  go_ret
  exact ⟨rfl, BC.trans (bd.trans (be.trans (bf.trans bg)))⟩

set_option maxHeartbeats 1000000 in
set_option maxRecDepth 100000 in
theorem apart_1 {a b v d : Int} (hn : n ≤ 9223372036854775807) (hc : n ≤ c) (hm0 : Mem w A (min n 70) l) (L1 : LoadIs A (min n 70) c l a 0 1) :
    Calls Try.prog 4 #[.slice A n c, .int .i64 a, .int .i64 b, .int .i64 v, .int .i64 d] w fun e w' => e = .returned (.bool true) ∧ Gr w w' := by
  have c0 := fun w => Lib.hid (few_ok A n c w hn hc)
  obtain ⟨N, hN⟩ : ∃ N, min n 70 = N := ⟨_, rfl⟩
  rw [hN] at L1
  simp only [hN] at c0 hm0
  clear hN
  have H0 := Lib.hid hm0
  clear hm0 hc
  go_enter Try.func4, Try.ntmps4
  go_wp2_with fail
  refine (c0 _).out.mono ?_
  rintro e w0 ⟨rfl, b0⟩
  go_wp2_with fail
  refine (L1 _ (H0.out.gr b0)).mono ?_
  rintro e w1 ⟨rfl, b1⟩
  go_wp2_with fail
  refine (alive2_ok _).mono ?_
  rintro e wg ⟨rfl, bg⟩
  go_wp2_with fail
  go_ret
  exact ⟨rfl, b0.trans (b1.trans bg)⟩

set_option maxHeartbeats 1000000 in
set_option maxRecDepth 100000 in
theorem apart_3 {a b v d : Int} (hn : n ≤ 9223372036854775807) (hc : n ≤ c) (hm0 : Mem w A (min n 70) l) (L1 : LoadIs A (min n 70) c l a 0 3) :
    Calls Try.prog 4 #[.slice A n c, .int .i64 a, .int .i64 b, .int .i64 v, .int .i64 d] w fun e w' => e = .returned (.bool true) ∧ Gr w w' := by
  have c0 := fun w => Lib.hid (few_ok A n c w hn hc)
  obtain ⟨N, hN⟩ : ∃ N, min n 70 = N := ⟨_, rfl⟩
  rw [hN] at L1
  simp only [hN] at c0 hm0
  clear hN
  have H0 := Lib.hid hm0
  clear hm0 hc
  go_enter Try.func4, Try.ntmps4
  go_wp2_with fail
  refine (c0 _).out.mono ?_
  rintro e w0 ⟨rfl, b0⟩
  go_wp2_with fail
  refine (L1 _ (H0.out.gr b0)).mono ?_
  rintro e w1 ⟨rfl, b1⟩
  go_wp2_with fail
  refine (alive2_ok _).mono ?_
  rintro e wg ⟨rfl, bg⟩
  go_wp2_with fail
  go_ret
  exact ⟨rfl, b0.trans (b1.trans bg)⟩

theorem CellApart_walk (w : World) (A : Option Addr) (n c : Nat) (l : List (Int × Int)) (hc : n ≤ c) (hn : n ≤ 9223372036854775807) (hm : Mem w A n l) (a : Int) (_ha : Inb a) (b : Int) (_hb : Inb b) (v : Int) (hv : Inb v) (d : Int) (hd : Inb d) :
    Calls Try.prog 4 #[.slice A n c, .int .i64 a, .int .i64 b, .int .i64 v, .int .i64 d] w fun e w' => e = .returned (.bool true) ∧ Gr w w' := by
  have h0 := hm.take_ (min n 70) (by omega)
  generalize l.take (min n 70) = L at h0
  have hN : min n 70 ≤ 9223372036854775807 := by omega
  cases hr : rightB L
  · exact apart_1 hn hc h0 (FindIs.arg hN hr).load
  · by_cases ha : a < 0 ∨ (min n 70 : Nat) ≤ a
    · exact apart_3 hn hc h0 (FindIs.range hN hr ha).load
    · obtain ⟨i, x, rfl, hx, hi⟩ := get_in h0.1 (a := a) (by omega) (by omega)
      have hf : ∀ y, rightB (L.set i (x.1, wd x.1 y)) = true := fun y => right_set hr (wd_fits _ _ (fit_kind (right_fit hr hx)))
      by_cases hab : b = (i : Int)
      · subst hab
        exact apart_same hn hc h0 hr hx hv hd (FindIs.ok hN hr hx).load (fun B => (FindIs.ok hN (hf _) (get_set_eq hx)).load)
      · have hb : (b == (i : Int)) = false := beq_eq_false_iff_ne.2 hab
        by_cases hbr : b < 0 ∨ (min n 70 : Nat) ≤ b
        · exact apart_ne hn hc h0 hr hx hv hd (FindIs.range hN hr hbr).load (fun B => (FindIs.range hN (hf _) hbr).load) hb rfl
        · obtain ⟨j, z, rfl, hz, hj⟩ := get_in h0.1 (a := b) (by omega) (by omega)
          exact apart_ne hn hc h0 hr hx hv hd (FindIs.ok hN hr hz).load (fun B => (FindIs.ok hN (hf _) (get_set_ne (by omega) hz)).load) hb rfl
end
set_option maxRecDepth 100000 in
theorem CellApart_lifted (os : Os) (started : os.Started) (H : Type) (enc : TypeId × Value → H) :
    ReturnsInHanded {} Try.checked os 4 .any (Rows.cellApartSpec.pre6 enc Try.prog Try.f4 Rows.cellApartRow.domain false) (Rows.cellApartSpec.post enc Try.prog Try.f4 false true false false) := by
  refine returnsInHanded_of_change (C := Try.checked) own started (by kernel_rfl) Try.func4
    (ChangeSpec.witness6 (enc := enc) (C := Try.checked) false ⟨#[], #[.slice none 0 0, .int .i64 0, .int .i64 0, .int .i64 0, .int .i64 0], []⟩ 8 (by kernel_rfl) (by kernel_rfl) (by kernel_rfl) (by kernel_rfl)) ?_
  intro W base args ds gs before hval0 hW hcnd _
  have hval : ∀ (j : Nat) t v, Try.f4.params[j]? = some t → args[j]? = some v → Value.okWide Try.prog W .any base t v := hval0
  have hW' := hW
  obtain ⟨p, q, hA0, hV, rfl, hfz, hnd⟩ := hW
  have hA : DataW.TrodAll enc Try.prog W 0 (fun _ => true) true Try.f4.params.toList args.toList ds p := hA0
  rw [Try.params4] at hA hval
  have hK := hA
  obtain ⟨v0, vs0, d0, ds0, p0, q0, hargs, rfl, hp, h0, r0⟩ := trodAll_cons hA
  obtain ⟨v1, vs1, d1, ds1, p1, q1, rfl, rfl, rfl, h1, r1⟩ := trodAll_cons r0
  obtain ⟨v2, vs2, d2, ds2, p2, q2, rfl, rfl, rfl, h2, r2⟩ := trodAll_cons r1
  obtain ⟨v3, vs3, d3, ds3, p3, q3, rfl, rfl, rfl, h3, r3⟩ := trodAll_cons r2
  obtain ⟨v4, vs4, d4, ds4, p4, q4, rfl, rfl, rfl, h4, r4⟩ := trodAll_cons r3
  obtain ⟨rfl, rfl, rfl⟩ := trodAll_nil r4
  obtain rfl : args = #[v0, v1, v2, v3, v4] := by cases args; simp_all
  obtain ⟨rfl, rfl⟩ := trodVars_none hV
  obtain ⟨A0, n0, c0, l0, rfl, hc0, hn0, hm0⟩ := open_cells (hval 0 22 v0 rfl rfl) h0
  obtain ⟨a1, rfl, rfl, rfl, w1⟩ := open_int Try.underlying3 (hval 1 3 v1 rfl rfl) h1
  obtain ⟨a2, rfl, rfl, rfl, w2⟩ := open_int Try.underlying3 (hval 2 3 v2 rfl rfl) h2
  obtain ⟨a3, rfl, rfl, rfl, w3⟩ := open_int Try.underlying3 (hval 3 3 v3 rfl rfl) h3
  obtain ⟨a4, rfl, rfl, rfl, w4⟩ := open_int Try.underlying3 (hval 4 3 v4 rfl rfl) h4
  clear hA0 hval0
  refine (CellApart_walk W A0 n0 c0 l0 hc0 hn0 hm0 a1 (wfb w1) a2 (wfb w2) a3 (wfb w3) a4 (wfb w4)).mono fun e W' ⟨he, hg⟩ => ?_
  subst he
  exact ⟨_, rfl, post_below (pa := p) (pv := []) hW' (fun _ _ _ => (trodAll_cons_mk (shut_bool Try.underlying4 _) trodAll_mk0))
    (fun sp hs => trodAll_stays laidOut hg sp (by kernel_rfl) hK (fun x hx => hW'.lt x (List.mem_append_left _ hx)) (fun x hx => hs x (List.mem_append_left _ hx))) (fun _ _ => rfl) rfl
    hg (ok_one (by kernel_rfl) rfl (okWide_bool_mk Try.underlying4 _))⟩

theorem CellApart_over : Rows.cellApartRow.holds Try.pinned (OpenSpec.ofChange Rows.cellApartSpec) :=
  OpenClaim.holds_of_wide 4 Try.f4 rfl rfl rfl rfl rfl rfl rfl ⟨rfl, rfl, rfl, rfl, rfl⟩ rfl rfl rfl rfl rfl (by kernel_rfl) Try.func4 (by kernel_rfl)
    (of_decide_eq_true (by kernel_rfl)) (by unfold Func.isWrapper; first | (rw [if_pos (by decide +kernel)]; kernel_rfl) | (rw [if_neg (by decide +kernel)]; exact ⟨rfl, rfl⟩))
    (fun os started H enc _ => CellApart_lifted os started H enc)

/-- The statement. -/
theorem CellApart_holds : Rows.CellApartSaid :=
  CellApart_over
#print axioms CellApart_holds
end Go.Proofs.Ytcfgkldlhlnniaa
