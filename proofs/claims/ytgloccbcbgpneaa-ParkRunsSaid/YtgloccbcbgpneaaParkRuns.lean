/-
  ParkRuns, for every input: who parks without a permit runs no more, and who is told runs; all others run as they did. No condition.
-/
import Derived.Test.YtgloccbcbgpneaaParkLaw
import Derived.Test.YtgloccbcbgpneaaBoolMap
import Derived.Test.YtgloccbcbgpneaaEnds
namespace Go.Proofs.Ytgloccbcbgpneaa
open Go.ChangeShapes Go.WideShapes Go.ChangeAt Go.RowKit P11
set_option linter.unusedVariables false

theorem cnt_set {l : List G} {k : Nat} {x y : G} (h : l[k]? = some x) : (rn (l.set k y)).length + (if x.1 = 0 then 1 else 0) = (rn l).length + (if y.1 = 0 then 1 else 0) := by
  obtain ⟨hk, rfl⟩ := List.getElem?_eq_some_iff.1 h
  rw [rn_cnt, rn_cnt, List.countP_set hk]
  have hpos : l[k].1 = 0 → 0 < l.countP (fun x => x.1 == 0) := fun h0 => List.countP_pos_iff.2 ⟨l[k], List.getElem_mem hk, by simp [h0]⟩
  by_cases h0 : l[k].1 = 0
  · have := hpos h0
    simp [h0]
    omega
  · simp [h0]
theorem in_set {l : List G} {k : Nat} {y : G} (hk : k < l.length) : (k : Int) ∈ rn (l.set k y) ↔ y.1 = 0 := by
  rw [mem_rn]
  constructor
  · rintro ⟨j, x, hj, hx, h0⟩
    obtain rfl : k = j := by omega
    rw [List.getElem?_set_self hk] at hx
    cases hx
    exact h0
  · intro h0
    exact ⟨k, y, rfl, List.getElem?_set_self hk, h0⟩

section
variable {w : World} {A : Option Addr} {n0 n c : Nat} {l : List G} {who : Int}
set_option maxHeartbeats 4000000 in
theorem runs_arg (c0 : Hid (Calls Try.prog 7 #[.slice A n0 c] w fun e w' => e = .returned (.slice A n c) ∧ w' = w)) (hn : n ≤ 12) (hm : GMem w A n l) (hr : rightB l = false) :
    Calls Try.prog 6 #[.slice A n0 c, .int .i64 who] w fun e w' => e = .returned (.bool true) ∧ Gr w w' := by
  have HM := Lib.hid hm
  have pr := fun w hm => Lib.hid (Runnable_no (A := A) (c := c) (n := n) (by omega) hr w hm)
  have p1 := fun w hm => Lib.hid (Park_at (A := A) (c := c) (n := n) (who := who) (N := 0) (by omega) (outc_arg hr) rfl w hm)
  have p2 := fun w hm => Lib.hid (Ready_at (A := A) (c := c) (n := n) (who := who) (N := 0) (by omega) (outc_arg hr) rfl w hm)
  have ca := fun w => Lib.hid (alive_ok w)
  clear hm hr hn
  go_enter Try.func6, Try.ntmps6
  go_wp2_with fail
  with_reducible refine c0.out.mono ?_
  rintro e w1 ⟨rfl, rfl⟩
  go_wp2_with fail
  with_reducible refine (pr _ HM.out).out.mono ?_
  rintro e w1 ⟨rfl, g1⟩
  have H1 := Lib.hid (HM.out.gr g1)
  have G1 := Lib.hid g1
  clear g1
  go_wp2_with fail
  with_reducible refine (p1 _ H1.out).out.mono ?_
  rintro e w2 ⟨B2, m2, rfl, hB2, hm2, -, g2⟩
  have H2 := Lib.hid (H1.out.gr g2)
  have G2 := Lib.hid (G1.out.trans g2)
  clear g2 hB2
  go_wp2_with fail
  with_reducible refine (p2 _ H2.out).out.mono ?_
  rintro e w3 ⟨B3, m3, rfl, hB3, hm3, -, g3⟩
  have G3 := Lib.hid (G2.out.trans g3)
  clear g3 hB3
  go_wp2_with fail
  with_reducible refine (ca _).out.mono ?_
  rintro e w4 ⟨rfl, g4⟩
  have G4 := Lib.hid (G3.out.trans g4)
  clear g4
  go_wp2_with fail
  go_ret
  exact ⟨rfl, G4.out⟩
set_option maxHeartbeats 4000000 in
theorem runs_range (c0 : Hid (Calls Try.prog 7 #[.slice A n0 c] w fun e w' => e = .returned (.slice A n c) ∧ w' = w)) (hn : n ≤ 12) (hm : GMem w A n l) (hr : rightB l = true) (hw : who < 0 ∨ (n : Int) ≤ who) :
    Calls Try.prog 6 #[.slice A n0 c, .int .i64 who] w fun e w' => e = .returned (.bool true) ∧ Gr w w' := by
  have HM := Lib.hid hm
  obtain ⟨v, hv⟩ : ∃ v, (rn l).length = v := ⟨_, rfl⟩
  have ho := fun p => outc_range (p := p) hr (by rw [hm.1]; exact hw)
  have pr := fun A c w hm => Lib.hid (Runnable_at (A := A) (c := c) (n := n) (by omega) hr hv w hm)
  have p1 := fun w hm => Lib.hid (Park_at (A := A) (c := c) (n := n) (who := who) (N := 0) (by omega) (ho _) rfl w hm)
  have p2 := fun w hm => Lib.hid (Ready_at (A := A) (c := c) (n := n) (who := who) (N := 0) (by omega) (ho _) rfl w hm)
  have ca := fun w => Lib.hid (alive_ok w)
  clear hm hr ho hv hn
  have hw' : (decide (who < 0) = true) ∨ (decide (who < 0) = false ∧ decide ((n : Int) ≤ who) = true) := by
    rcases hw with h | h
    · exact .inl (by simpa using h)
    · by_cases h0 : who < 0
      · exact .inl (by simpa using h0)
      · exact .inr ⟨by simpa using h0, by simpa using h⟩
  clear hw
  rcases hw' with hw | ⟨hw, hw2⟩
  all_goals (
    go_enter Try.func6, Try.ntmps6
    go_wp2_with fail
    with_reducible refine c0.out.mono ?_
    rintro e w1 ⟨rfl, rfl⟩
    go_wp2_with fail
    with_reducible refine (pr _ _ _ HM.out).out.mono ?_
    rintro e w1 ⟨C1, d1, rfl, hC1, hd1, g1⟩
    have H1 := Lib.hid (HM.out.gr g1)
    have G1 := Lib.hid g1
    clear g1 hC1
    go_wp2_with fail
    with_reducible refine (p1 _ H1.out).out.mono ?_
    rintro e w2 ⟨B2, m2, rfl, hB2, hm2, -, g2⟩
    have H2 := Lib.hid (H1.out.gr g2)
    have G2 := Lib.hid (G1.out.trans g2)
    have K2 := Lib.hid hB2
    clear g2 hB2
    go_wp2_with fail
    with_reducible refine (p2 _ H2.out).out.mono ?_
    rintro e w3 ⟨B3, m3, rfl, hB3, hm3, -, g3⟩
    have G3 := Lib.hid (G2.out.trans g3)
    have K3 := Lib.hid hB3
    have L3 := Lib.hid (K2.out.gr g3)
    have H3 := Lib.hid (H2.out.gr g3)
    clear g3 hB3 H2 H1 G2 G1 K2
    go_wp2_with fail
    with_reducible refine (ca _).out.mono ?_
    rintro e w4 ⟨rfl, g4⟩
    have G4 := Lib.hid (G3.out.trans g4)
    clear g4
    go_wp2_with fail
    go_ret
    exact ⟨rfl, G4.out⟩)
set_option maxHeartbeats 8000000 in
theorem runs_in (c0 : Hid (Calls Try.prog 7 #[.slice A n0 c] w fun e w' => e = .returned (.slice A n c) ∧ w' = w)) (hn : n ≤ 12) (hm : GMem w A n l) (hr : rightB l = true) {k : Nat} (hk : k < n) :
    Calls Try.prog 6 #[.slice A n0 c, .int .i64 (k : Int)] w fun e w' => e = .returned (.bool true) ∧ Gr w w' := by
  have HM := Lib.hid hm
  obtain ⟨v, hv⟩ : ∃ v, (rn l).length = v := ⟨_, rfl⟩
  have hv8 : v ≤ n := by rw [← hv, ← hm.1]; exact rnK_len l _
  obtain ⟨x, hx⟩ : ∃ x, l[k]? = some x := ⟨_, List.getElem?_eq_getElem (by have := hm.1; omega)⟩
  have hl := hm.1
  have hkl : k < l.length := by omega
  have ox := ok_of hr hx
  have pr := fun A c w hm => Lib.hid (Runnable_at (A := A) (c := c) (n := n) (by omega) hr hv w hm)
  have o1 := outc_at (p := pkG) hr hx
  have o2 := outc_at (p := rdG) hr hx
  have ca := fun w => Lib.hid (alive_ok w)
  have hmm := @run_makeMap Try.prog
  have hpt := run_boolmap_put
  have hk0 : decide ((k : Int) < 0) = false := by simp
  have hk1 : decide (n ≤ k) = false := by simp; omega
  have k0 : (0 : Int) ≤ (k : Int) := by omega
  have k1 : (k : Int) < (n : Int) := by omega
  have e1 : ∀ y : G, (l.set k y).length = n := fun y => by rw [List.length_set]; exact hl
  obtain ⟨s, p⟩ := x
  have hs : (s = 0 ∧ p = false) ∨ (s = 0 ∧ p = true) ∨ (s = 1 ∧ p = false) ∨ (s = 2 ∧ p = false) := by
    have ox' : ((0 ≤ s ∧ s ≤ 2) ∧ (p = false ∨ s = 0)) := by simpa [okG] using ox
    cases p
    · have : s = 0 ∨ s = 1 ∨ s = 2 := by omega
      rcases this with h | h | h <;> simp [h]
    · have : s = 0 := by simpa using ox'.2
      simp [this]
  clear ox hm hl
  rcases hs with ⟨rfl, rfl⟩ | ⟨rfl, rfl⟩ | ⟨rfl, rfl⟩ | ⟨rfl, rfl⟩
  · obtain ⟨u, hu⟩ : ∃ u, (rn (l.set k (1, false))).length = u := ⟨_, rfl⟩
    have hcu := cnt_set (y := (1, false)) hx
    have hu8 : u ≤ n := by rw [← hu, ← e1 (1, false)]; exact rnK_len _ _
    simp only [hu, hv] at hcu
    have p1 := fun w hm => Lib.hid (Park_at (A := A) (c := c) (n := n) (who := (k : Int)) (R := l.set k (1, false)) (q := 0) (by omega) (by rw [o1]; rfl) (e1 _) w hm)
    have q1 := fun A c w hm => Lib.hid (Runnable_at (A := A) (c := c) (n := n) (by omega) (right_set (y := (1, false)) hr (by decide)) hu w hm)
    have i1 := in_set (y := (1, false)) hkl
    have su : IntKind.i64.wrap ((v : Int) - 1) = (u : Int) := by rw [IntKind.wrap_i64]; simp at hcu; omega
    have hgt1 := fun w => run_boolmap_get w true 1 (by simp)
    obtain ⟨t, ht⟩ : ∃ t, (rn (l.set k (0, true))).length = t := ⟨_, rfl⟩
    have hct := cnt_set (y := (0, true)) hx
    have ht8 : t ≤ n := by rw [← ht, ← e1 (0, true)]; exact rnK_len _ _
    simp only [ht, hv] at hct
    have p2 := fun w hm => Lib.hid (Ready_at (A := A) (c := c) (n := n) (who := (k : Int)) (R := l.set k (0, true)) (q := 0) (by omega) (by rw [o2]; rfl) (e1 _) w hm)
    have q2 := fun A c w hm => Lib.hid (Runnable_at (A := A) (c := c) (n := n) (by omega) (right_set (y := (0, true)) hr (by decide)) ht w hm)
    have i2 := in_set (y := (0, true)) hkl
    have st : IntKind.i64.wrap (v : Int) = (t : Int) := by rw [IntKind.wrap_i64]; simp at hct; omega
    have hgt2 := fun w => run_boolmap_get w false 0 (by simp)
    have HX := Lib.hid hx
    clear hx o1 o2 hr hv e1 hkl hu hcu ht hct
    go_enter Try.func6, Try.ntmps6
    go_wp2_with fail
    with_reducible refine c0.out.mono ?_
    rintro e w1 ⟨rfl, rfl⟩
    go_wp2_with fail
    with_reducible refine (pr _ _ _ HM.out).out.mono ?_
    rintro e w1 ⟨C1, d1, rfl, hC1, hd1, g1⟩
    have H1 := Lib.hid (HM.out.gr g1)
    have G1 := Lib.hid g1
    clear g1 hC1
    go_wp2_with fail
    with_reducible refine (p1 _ H1.out).out.mono ?_
    rintro e w2 ⟨B2, m2, rfl, hB2, hm2, -, g2⟩
    have H2 := Lib.hid (H1.out.gr g2)
    have G2 := Lib.hid (G1.out.trans g2)
    have K2 := Lib.hid hB2
    clear g2 hB2
    go_wp2_with fail
    with_reducible refine (p2 _ H2.out).out.mono ?_
    rintro e w3 ⟨B3, m3, rfl, hB3, hm3, -, g3⟩
    have G3 := Lib.hid (G2.out.trans g3)
    have K3 := Lib.hid hB3
    have L3 := Lib.hid (K2.out.gr g3)
    have H3 := Lib.hid (H2.out.gr g3)
    clear g3 hB3 H2 H1 G2 G1 K2
    obtain ⟨b, off, x, rfl, hbl, hx, hix, cx, cy⟩ := H3.out.at_ hk
    obtain rfl : x = (0, false) := by rw [HX.out] at hx; exact (Option.some.inj hx).symm
    dsimp only at cx cy hix
    clear hx
    go_wp2_with fail
    with_reducible refine (q1 _ _ _ L3.out).out.mono ?_
    rintro e w4 ⟨C4, d4, rfl, hC4, hd4, g4⟩
    replace cy := (g4.cell (p := ⟨b, off + k * 2 + 1, none⟩) hbl).trans cy
    replace cx := (g4.cell (p := ⟨b, off + k * 2, none⟩) hbl).trans cx
    replace hbl := Nat.lt_of_lt_of_le hbl g4.size
    have I4 := Lib.hid hC4
    replace K3 := Lib.hid (K3.out.gr g4)
    have G4 := Lib.hid (G3.out.trans g4)
    clear g4 hC4
    obtain ⟨r, hr, kP⟩ := rPlace_any (c := d4) (I4.out.gr ((Gr.refl _).al (.map #[oneEntry] 1))) (by omega) (k : Int)
    have hr0 : decide (r < 0) = true := decide_eq_true (hr.2 (by rw [i1]; decide))
    have KP := Lib.hid kP
    clear hr kP I4 i1
    go_wp2_with fail
    with_reducible refine KP.out.mono ?_
    rintro e w5 ⟨rfl, rfl⟩
    replace cx := ((Gr.refl _).al (.map #[oneEntry] 1)).cell (p := ⟨b, off + k * 2, none⟩) hbl |>.trans cx
    replace cy := ((Gr.refl _).al (.map #[oneEntry] 1)).cell (p := ⟨b, off + k * 2 + 1, none⟩) hbl |>.trans cy
    replace hbl := Nat.lt_of_lt_of_le hbl ((Gr.refl w4).al (.map #[oneEntry] 1)).size
    replace K3 := Lib.hid (K3.out.gr ((Gr.refl _).al (.map #[oneEntry] 1)))
    have G5 := Lib.hid (G4.out.al (.map #[oneEntry] 1))
    clear G4 KP
    generalize w4.alloc (.map #[oneEntry] 1) = W4 at *
    clear hgt1 su q1
    go_wp2_with fail
    with_reducible refine (q2 _ _ _ K3.out).out.mono ?_
    rintro e w6 ⟨C6, d6, rfl, hC6, hd6, g6⟩
    have cx6 := (g6.cell (p := ⟨b, off + k * 2, none⟩) hbl).trans cx
    replace hbl := Nat.lt_of_lt_of_le hbl g6.size
    have I6 := Lib.hid hC6
    have G6 := Lib.hid (G5.out.trans g6)
    clear g6 hC6 cx
    obtain ⟨r, hr, kP⟩ := rPlace_any (c := d6) I6.out (by omega) (k : Int)
    have hr0 : decide (r < 0) = false := decide_eq_false (fun h => hr.1 h (by rw [i2]; trivial))
    have KP := Lib.hid kP
    clear hr kP I6 i2
    go_wp2_with fail
    with_reducible refine KP.out.mono ?_
    rintro e w7 ⟨rfl, rfl⟩
    clear KP
    have G7 := Lib.hid (G6.out.al (.map #[oneEntry] 1))
    go_wp2_with fail
    with_reducible refine (ca _).out.mono ?_
    rintro e w8 ⟨rfl, g8⟩
    have G8 := Lib.hid (G7.out.trans g8)
    clear g8
    go_wp2_with fail
    go_ret
    exact ⟨rfl, G8.out⟩
  · obtain ⟨u, hu⟩ : ∃ u, (rn (l.set k (0, false))).length = u := ⟨_, rfl⟩
    have hcu := cnt_set (y := (0, false)) hx
    have hu8 : u ≤ n := by rw [← hu, ← e1 (0, false)]; exact rnK_len _ _
    simp only [hu, hv] at hcu
    have p1 := fun w hm => Lib.hid (Park_at (A := A) (c := c) (n := n) (who := (k : Int)) (R := l.set k (0, false)) (q := 0) (by omega) (by rw [o1]; rfl) (e1 _) w hm)
    have q1 := fun A c w hm => Lib.hid (Runnable_at (A := A) (c := c) (n := n) (by omega) (right_set (y := (0, false)) hr (by decide)) hu w hm)
    have i1 := in_set (y := (0, false)) hkl
    have su : IntKind.i64.wrap (v : Int) = (u : Int) := by rw [IntKind.wrap_i64]; simp at hcu; omega
    have hgt1 := fun w => run_boolmap_get w false 0 (by simp)
    have p2 := fun w hm => Lib.hid (Ready_at (A := A) (c := c) (n := n) (who := (k : Int)) (R := []) (q := 7) (N := 0) (by omega) (by rw [o2]; rfl) rfl w hm)
    have HX := Lib.hid hx
    clear hx o1 o2 hr hv e1 hkl hu hcu
    go_enter Try.func6, Try.ntmps6
    go_wp2_with fail
    with_reducible refine c0.out.mono ?_
    rintro e w1 ⟨rfl, rfl⟩
    go_wp2_with fail
    with_reducible refine (pr _ _ _ HM.out).out.mono ?_
    rintro e w1 ⟨C1, d1, rfl, hC1, hd1, g1⟩
    have H1 := Lib.hid (HM.out.gr g1)
    have G1 := Lib.hid g1
    clear g1 hC1
    go_wp2_with fail
    with_reducible refine (p1 _ H1.out).out.mono ?_
    rintro e w2 ⟨B2, m2, rfl, hB2, hm2, -, g2⟩
    have H2 := Lib.hid (H1.out.gr g2)
    have G2 := Lib.hid (G1.out.trans g2)
    have K2 := Lib.hid hB2
    clear g2 hB2
    go_wp2_with fail
    with_reducible refine (p2 _ H2.out).out.mono ?_
    rintro e w3 ⟨B3, m3, rfl, hB3, hm3, -, g3⟩
    have G3 := Lib.hid (G2.out.trans g3)
    have K3 := Lib.hid hB3
    have L3 := Lib.hid (K2.out.gr g3)
    have H3 := Lib.hid (H2.out.gr g3)
    clear g3 hB3 H2 H1 G2 G1 K2
    obtain ⟨b, off, x, rfl, hbl, hx, hix, cx, cy⟩ := H3.out.at_ hk
    obtain rfl : x = (0, true) := by rw [HX.out] at hx; exact (Option.some.inj hx).symm
    dsimp only at cx cy hix
    clear hx
    go_wp2_with fail
    with_reducible refine (q1 _ _ _ L3.out).out.mono ?_
    rintro e w4 ⟨C4, d4, rfl, hC4, hd4, g4⟩
    replace cy := (g4.cell (p := ⟨b, off + k * 2 + 1, none⟩) hbl).trans cy
    replace cx := (g4.cell (p := ⟨b, off + k * 2, none⟩) hbl).trans cx
    replace hbl := Nat.lt_of_lt_of_le hbl g4.size
    have I4 := Lib.hid hC4
    replace K3 := Lib.hid (K3.out.gr g4)
    have G4 := Lib.hid (G3.out.trans g4)
    clear g4 hC4
    obtain ⟨r, hr, kP⟩ := rPlace_any (c := d4) (I4.out.gr ((Gr.refl _).al (.map #[oneEntry] 1))) (by omega) (k : Int)
    have hr0 : decide (r < 0) = false := decide_eq_false (fun h => hr.1 h (by rw [i1]; trivial))
    have KP := Lib.hid kP
    clear hr kP I4 i1
    go_wp2_with fail
    with_reducible refine KP.out.mono ?_
    rintro e w5 ⟨rfl, rfl⟩
    replace cx := ((Gr.refl _).al (.map #[oneEntry] 1)).cell (p := ⟨b, off + k * 2, none⟩) hbl |>.trans cx
    replace cy := ((Gr.refl _).al (.map #[oneEntry] 1)).cell (p := ⟨b, off + k * 2 + 1, none⟩) hbl |>.trans cy
    replace hbl := Nat.lt_of_lt_of_le hbl ((Gr.refl w4).al (.map #[oneEntry] 1)).size
    replace K3 := Lib.hid (K3.out.gr ((Gr.refl _).al (.map #[oneEntry] 1)))
    have G5 := Lib.hid (G4.out.al (.map #[oneEntry] 1))
    clear G4 KP
    generalize w4.alloc (.map #[oneEntry] 1) = W4 at *
    clear hgt1 su q1
    go_wp2_with fail
    with_reducible refine (ca _).out.mono ?_
    rintro e w8 ⟨rfl, g8⟩
    have G8 := Lib.hid (G5.out.trans g8)
    clear g8
    go_wp2_with fail
    go_ret
    exact ⟨rfl, G8.out⟩
  · have p1 := fun w hm => Lib.hid (Park_at (A := A) (c := c) (n := n) (who := (k : Int)) (R := []) (q := 6) (N := 0) (by omega) (by rw [o1]; rfl) rfl w hm)
    obtain ⟨t, ht⟩ : ∃ t, (rn (l.set k (0, false))).length = t := ⟨_, rfl⟩
    have hct := cnt_set (y := (0, false)) hx
    have ht8 : t ≤ n := by rw [← ht, ← e1 (0, false)]; exact rnK_len _ _
    simp only [ht, hv] at hct
    have p2 := fun w hm => Lib.hid (Ready_at (A := A) (c := c) (n := n) (who := (k : Int)) (R := l.set k (0, false)) (q := 0) (by omega) (by rw [o2]; rfl) (e1 _) w hm)
    have q2 := fun A c w hm => Lib.hid (Runnable_at (A := A) (c := c) (n := n) (by omega) (right_set (y := (0, false)) hr (by decide)) ht w hm)
    have i2 := in_set (y := (0, false)) hkl
    have st : IntKind.i64.wrap ((v : Int) + 1) = (t : Int) := by rw [IntKind.wrap_i64]; simp at hct; omega
    have hgt2 := fun w => run_boolmap_get w true 1 (by simp)
    have HX := Lib.hid hx
    clear hx o1 o2 hr hv e1 hkl ht hct
    go_enter Try.func6, Try.ntmps6
    go_wp2_with fail
    with_reducible refine c0.out.mono ?_
    rintro e w1 ⟨rfl, rfl⟩
    go_wp2_with fail
    with_reducible refine (pr _ _ _ HM.out).out.mono ?_
    rintro e w1 ⟨C1, d1, rfl, hC1, hd1, g1⟩
    have H1 := Lib.hid (HM.out.gr g1)
    have G1 := Lib.hid g1
    clear g1 hC1
    go_wp2_with fail
    with_reducible refine (p1 _ H1.out).out.mono ?_
    rintro e w2 ⟨B2, m2, rfl, hB2, hm2, -, g2⟩
    have H2 := Lib.hid (H1.out.gr g2)
    have G2 := Lib.hid (G1.out.trans g2)
    have K2 := Lib.hid hB2
    clear g2 hB2
    go_wp2_with fail
    with_reducible refine (p2 _ H2.out).out.mono ?_
    rintro e w3 ⟨B3, m3, rfl, hB3, hm3, -, g3⟩
    have G3 := Lib.hid (G2.out.trans g3)
    have K3 := Lib.hid hB3
    have L3 := Lib.hid (K2.out.gr g3)
    have H3 := Lib.hid (H2.out.gr g3)
    clear g3 hB3 H2 H1 G2 G1 K2
    obtain ⟨b, off, x, rfl, hbl, hx, hix, cx, cy⟩ := H3.out.at_ hk
    obtain rfl : x = (1, false) := by rw [HX.out] at hx; exact (Option.some.inj hx).symm
    dsimp only at cx cy hix
    clear hx
    go_wp2_with fail
    with_reducible refine (q2 _ _ _ K3.out).out.mono ?_
    rintro e w6 ⟨C6, d6, rfl, hC6, hd6, g6⟩
    have cx6 := (g6.cell (p := ⟨b, off + k * 2, none⟩) hbl).trans cx
    replace hbl := Nat.lt_of_lt_of_le hbl g6.size
    have I6 := Lib.hid hC6
    have G6 := Lib.hid (G3.out.trans g6)
    clear g6 hC6 cx
    obtain ⟨r, hr, kP⟩ := rPlace_any (c := d6) I6.out (by omega) (k : Int)
    have hr0 : decide (r < 0) = false := decide_eq_false (fun h => hr.1 h (by rw [i2]; trivial))
    have KP := Lib.hid kP
    clear hr kP I6 i2
    go_wp2_with fail
    with_reducible refine KP.out.mono ?_
    rintro e w7 ⟨rfl, rfl⟩
    clear KP
    have G7 := Lib.hid (G6.out.al (.map #[oneEntry] 1))
    go_wp2_with fail
    with_reducible refine (ca _).out.mono ?_
    rintro e w8 ⟨rfl, g8⟩
    have G8 := Lib.hid (G7.out.trans g8)
    clear g8
    go_wp2_with fail
    go_ret
    exact ⟨rfl, G8.out⟩
  · have p1 := fun w hm => Lib.hid (Park_at (A := A) (c := c) (n := n) (who := (k : Int)) (R := []) (q := 6) (N := 0) (by omega) (by rw [o1]; rfl) rfl w hm)
    have p2 := fun w hm => Lib.hid (Ready_at (A := A) (c := c) (n := n) (who := (k : Int)) (R := []) (q := 6) (N := 0) (by omega) (by rw [o2]; rfl) rfl w hm)
    have HX := Lib.hid hx
    clear hx o1 o2 hr hv e1 hkl
    go_enter Try.func6, Try.ntmps6
    go_wp2_with fail
    with_reducible refine c0.out.mono ?_
    rintro e w1 ⟨rfl, rfl⟩
    go_wp2_with fail
    with_reducible refine (pr _ _ _ HM.out).out.mono ?_
    rintro e w1 ⟨C1, d1, rfl, hC1, hd1, g1⟩
    have H1 := Lib.hid (HM.out.gr g1)
    have G1 := Lib.hid g1
    clear g1 hC1
    go_wp2_with fail
    with_reducible refine (p1 _ H1.out).out.mono ?_
    rintro e w2 ⟨B2, m2, rfl, hB2, hm2, -, g2⟩
    have H2 := Lib.hid (H1.out.gr g2)
    have G2 := Lib.hid (G1.out.trans g2)
    have K2 := Lib.hid hB2
    clear g2 hB2
    go_wp2_with fail
    with_reducible refine (p2 _ H2.out).out.mono ?_
    rintro e w3 ⟨B3, m3, rfl, hB3, hm3, -, g3⟩
    have G3 := Lib.hid (G2.out.trans g3)
    have K3 := Lib.hid hB3
    have L3 := Lib.hid (K2.out.gr g3)
    have H3 := Lib.hid (H2.out.gr g3)
    clear g3 hB3 H2 H1 G2 G1 K2
    obtain ⟨b, off, x, rfl, hbl, hx, hix, cx, cy⟩ := H3.out.at_ hk
    obtain rfl : x = (2, false) := by rw [HX.out] at hx; exact (Option.some.inj hx).symm
    dsimp only at cx cy hix
    clear hx
    go_wp2_with fail
    with_reducible refine (ca _).out.mono ?_
    rintro e w8 ⟨rfl, g8⟩
    have G8 := Lib.hid (G3.out.trans g8)
    clear g8
    go_wp2_with fail
    go_ret
    exact ⟨rfl, G8.out⟩
end

theorem ParkRuns_walk (w : World) (A : Option Addr) (n0 c : Nat) (l0 : List G) (hc : n0 ≤ c) (hn : n0 ≤ 9223372036854775807) (hm0 : GMem w A n0 l0) (who : Int) (hw : B64 who) :
    Calls Try.prog 6 #[.slice A n0 c, .int .i64 who] w fun e w' => e = .returned (.bool true) ∧ Gr w w' := by
  obtain ⟨n, hmn⟩ : ∃ n, (12 < n0 ∧ n = 12) ∨ (n0 ≤ 12 ∧ n = n0) := by
    by_cases h : 12 < n0
    · exact ⟨12, .inl ⟨h, rfl⟩⟩
    · exact ⟨n0, .inr ⟨by omega, rfl⟩⟩
  have hm := hm0.take_ n (by omega)
  have c0 := Lib.hid (few_ok A n0 c n hc hn hmn w)
  by_cases hr : rightB (l0.take n) = true
  · by_cases hw : who < 0 ∨ (n : Int) ≤ who
    · exact runs_range c0 (by omega) hm hr hw
    · obtain ⟨k, rfl⟩ : ∃ k : Nat, who = (k : Int) := ⟨who.toNat, by omega⟩
      exact runs_in c0 (by omega) hm hr (by omega)
  · exact runs_arg c0 (by omega) hm (by simpa using hr)

set_option maxRecDepth 100000 in
theorem ParkRuns_lifted (os : Os) (started : os.Started) (H : Type) (enc : TypeId × Value → H) :
    ReturnsInHanded {} Try.checked os 6 .any (Rows.parkRunsSpec.pre6 enc Try.prog Try.f6 Rows.parkRunsRow.domain false) (Rows.parkRunsSpec.post enc Try.prog Try.f6 false true false false) := by
  refine returnsInHanded_of_change (C := Try.checked) own started (by kernel_rfl) Try.func6
    (ChangeSpec.witness6 (enc := enc) (C := Try.checked) false ⟨#[], #[.slice none 0 0, .int .i64 0], []⟩ 8 (by kernel_rfl) (by kernel_rfl) (by kernel_rfl) (by kernel_rfl)) ?_
  intro W base args ds gs before hval0 hW hcnd _
  have hval : ∀ (j : Nat) t v, Try.f6.params[j]? = some t → args[j]? = some v → Value.okWide Try.prog W .any base t v := hval0
  have hW' := hW
  obtain ⟨p, q, hA0, hV, rfl, hfz, hnd⟩ := hW
  have hA : DataW.TrodAll enc Try.prog W 0 (fun _ => true) true Try.f6.params.toList args.toList ds p := hA0
  rw [Try.params6] at hA hval
  have hK := hA
  obtain ⟨v0, vs0, d0, ds0, p0, q0, hargs, rfl, hp, h0, r0⟩ := trodAll_cons hA
  obtain ⟨v1, vs1, d1, ds1, p1, q1, rfl, rfl, rfl, h1, r1⟩ := trodAll_cons r0
  obtain ⟨rfl, rfl, rfl⟩ := trodAll_nil r1
  obtain rfl : args = #[v0, v1] := by cases args; simp_all
  obtain ⟨rfl, rfl⟩ := trodVars_none hV
  obtain ⟨A0, n0, c0, l0, rfl, hc0, hn0, hm0⟩ := P11.open_gors (hval 0 22 v0 rfl rfl) h0
  obtain ⟨a1, rfl, rfl, rfl, w1⟩ := open_int Try.underlying3 (hval 1 3 v1 rfl rfl) h1
  clear hA0 hval0
  refine (ParkRuns_walk W A0 n0 c0 l0 hc0 hn0 hm0 a1 (wfb w1)).mono fun e W' ⟨he, hg⟩ => ?_
  subst he
  exact ⟨_, rfl, post_below (pa := p) (pv := []) hW' (fun _ _ _ => (trodAll_cons_mk (shut_bool Try.underlying4 _) trodAll_mk0))
    (fun sp hs => trodAll_stays laidOut hg sp (by kernel_rfl) hK (fun x hx => hW'.lt x (List.mem_append_left _ hx)) (fun x hx => hs x (List.mem_append_left _ hx))) (fun _ _ => rfl) rfl
    hg (ok_one (by kernel_rfl) rfl (okWide_bool_mk Try.underlying4 _))⟩

theorem ParkRuns_over : Rows.parkRunsRow.holds Try.pinned (OpenSpec.ofChange Rows.parkRunsSpec) :=
  OpenClaim.holds_of_wide 6 Try.f6 rfl rfl rfl rfl rfl rfl rfl ⟨rfl, rfl, rfl, rfl, rfl⟩ rfl rfl rfl rfl rfl (by kernel_rfl) Try.func6 (by kernel_rfl)
    (of_decide_eq_true (by kernel_rfl)) (by unfold Func.isWrapper; first | (rw [if_pos (by decide +kernel)]; kernel_rfl) | (rw [if_neg (by decide +kernel)]; exact ⟨rfl, rfl⟩))
    (fun os started H enc _ => ParkRuns_lifted os started H enc)

/-- The statement. -/
theorem ParkRuns_holds : Rows.ParkRunsSaid :=
  ParkRuns_over
#print axioms ParkRuns_holds
end Go.Proofs.Ytgloccbcbgpneaa
