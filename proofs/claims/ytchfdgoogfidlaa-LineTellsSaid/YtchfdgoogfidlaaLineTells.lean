/-
  Proved: deadboltlaw07.LineTells returns true at every input (which lines may be, and any with one more, without the next one, or without any one, and how many are ahead of that, is as the document says, or refused). No condition.
-/
import Derived.Test.YtchfdgoogfidlaaLinePlaces
namespace Go.Proofs.Ytchfdgoogfidlaa
open Go.ChangeShapes Go.WideShapes Go.ChangeAt Go.RowKit
set_option linter.unusedVariables false

theorem drop_filter {l a b : List Int} {x : Int} (h : Good l) (hl : l = a ++ x :: b) : l.filter (fun y => y != x) = a ++ b := by
  subst hl
  rw [good_app, good_cons] at h
  have ha : a.filter (fun y => y != x) = a := List.filter_eq_self.2 fun y hy => by
    have := h.2.2 y hy
    simp at this ⊢
    exact this.1
  have hb : b.filter (fun y => y != x) = b := List.filter_eq_self.2 fun y hy => by
    simp
    rintro rfl
    exact h.2.1.2.1 hy
  rw [List.filter_append, List.filter_cons, ha, hb]
  simp
set_option maxHeartbeats 800000 in
set_option maxRecDepth 100000 in
theorem tells_run {w : World} {A : Option Addr} {n c m : Nat} {l : List Int} (hc : n ≤ c) (hn : n ≤ 9223372036854775807) (hmn : (70 < n ∧ m = 70) ∨ (n ≤ 70 ∧ m = n)) (hm : IMem w A m l)
    {who : Int} {first : Bool} (hw : B64 who) {r1 r2 r3 : List Int} {e x f g p h : Int} {v : Bool} (hPu : PushR l who first r1 e) (hPo : PopR l r2 x f) (hD : DropR l who r3 g) (hPl : PlaceR l who p h) (hv : v = true ↔ Ln l) :
    Calls Try.prog 3 #[.slice A n c, .int .i64 who, .bool first] w fun e w' => e = .returned (.bool true) ∧ Gr w w' := by
  have mc : m ≤ c := by omega
  have m70 : m ≤ 70 := by omega
  have k0 := fun w => Lib.hid (few_ok A n c m hc hn hmn w)
  have k1 := fun w1 (g : Gr w w1) => Lib.hid (Push_is (hm.gr g) mc (by omega) hw hPu)
  have k2 := fun w1 (g : Gr w w1) => Lib.hid (Pop_is (hm.gr g) mc (by omega) hPo)
  have k3 := fun w1 (g : Gr w w1) => Lib.hid (Drop_is (hm.gr g) mc (by omega) hD)
  have k4 := fun w1 (g : Gr w w1) => Lib.hid (Place_is (hm.gr g) mc (by omega) hPl)
  have k5 := fun w1 (g : Gr w w1) => Lib.hid (rRight_is (hm.gr g) mc (by omega) hv)
  have k6 := fun w1 (g : Gr w w1) => Lib.hid (Right_is (hm.gr g) mc (by omega) hv)
  have HM := Lib.hid hm
  have hPu := Lib.hid hPu
  have hPo := Lib.hid hPo
  have hD := Lib.hid hD
  have hPl := Lib.hid hPl
  have hV := Lib.hid hv
  have tv : (v != v) = false := by cases v <;> rfl
  have hr1 := Lib.hid (show ∃ q, q = r1.length from ⟨_, rfl⟩)
  clear hm hmn hv
  go_enter Try.func3, Try.ntmps3
  go_wp2_with fail
  with_reducible refine (k0 _).out.mono ?_
  rintro e w1 ⟨rfl, rfl⟩
  go_wp2_with fail
  with_reducible refine (k1 _ (Gr.refl _)).out.mono ?_
  rintro e w1 ⟨C1, d1, rfl, own1, G1⟩
  have O1 := Lib.hid own1
  clear own1
  go_wp2_with fail
  with_reducible refine (k2 _ G1).out.mono ?_
  rintro e w2 ⟨C2, d2, rfl, own2, g2⟩
  have O2 := Lib.hid own2
  replace O1 := Lib.hid (O1.out.gr g2)
  have G2 := G1.trans g2
  clear own2 G1 g2
  go_wp2_with fail
  with_reducible refine (k3 _ G2).out.mono ?_
  rintro e w3 ⟨C3, d3, rfl, own3, g3⟩
  have O3 := Lib.hid own3
  replace O1 := Lib.hid (O1.out.gr g3)
  replace O2 := Lib.hid (O2.out.gr g3)
  have G3 := G2.trans g3
  clear own3 G2 g3
  go_wp2_with fail
  with_reducible refine (k4 _ G3).out.mono ?_
  rintro e w4 ⟨rfl, rfl⟩
  go_wp2_with fail
  with_reducible refine (k5 _ G3).out.mono ?_
  rintro e w4 ⟨rfl, rfl⟩
  go_wp2_with fail
  with_reducible refine (k6 _ G3).out.mono ?_
  rintro e w4 ⟨rfl, rfl⟩
  clear k0 k1 k2 k3 k4 k5 k6
  go_wp2_with fail
  with_reducible refine (alive7_ok _).mono ?_
  rintro e w4 ⟨rfl, g4⟩
  have G4 := G3.trans g4
  replace O1 := Lib.hid (O1.out.gr g4)
  replace O2 := Lib.hid (O2.out.gr g4)
  replace O3 := Lib.hid (O3.out.gr g4)
  have M4 := Lib.hid (HM.out.gr G4)
  clear G3 g4
  cases v
  · have hl : ¬ Ln l := fun h => by have := hV.out.2 h; cases this
    obtain ⟨rfl, rfl⟩ : r1 = [] ∧ e = 1 := by
      rcases hPu.out with ⟨_, h1, h2⟩ | ⟨_, h1, _⟩ | ⟨_, h1, _⟩ | ⟨_, h1, _⟩
      · exact ⟨h1, h2⟩
      all_goals exact absurd h1 hl
    obtain ⟨rfl, rfl, rfl⟩ : r2 = [] ∧ x = 0 ∧ f = 1 := by
      rcases hPo.out with ⟨_, h1, h2, h3⟩ | ⟨h1, _⟩ | ⟨h1, _⟩
      · exact ⟨h1, h2, h3⟩
      · exact absurd (h1 ▸ Ln.nil) hl
      · exact absurd h1 hl
    obtain ⟨rfl, rfl⟩ : r3 = [] ∧ g = 1 := by
      rcases hD.out with ⟨_, h1, h2⟩ | ⟨_, h1, _⟩ | ⟨_, h1, _⟩
      · exact ⟨h1, h2⟩
      all_goals exact absurd h1 hl
    obtain ⟨rfl, rfl⟩ : p = 0 ∧ h = 1 := by
      rcases hPl.out with ⟨_, h1, h2⟩ | ⟨_, h1, _⟩ | ⟨_, h1, _⟩
      · exact ⟨h1, h2⟩
      all_goals exact absurd h1 hl
    clear hl hPu hPo hD hPl hV
    go_wp2_with fail
    go_ret
    exact ⟨rfl, G4⟩
  · have hl : Ln l := hV.out.1 rfl
    cases l with
    | nil =>
      obtain ⟨rfl, rfl, rfl⟩ : r2 = [] ∧ x = 0 ∧ f = 4 := by
        rcases hPo.out with ⟨h1, _⟩ | ⟨_, h1, h2, h3⟩ | ⟨_, h1, _⟩
        · exact absurd hl h1
        · exact ⟨h1, h2, h3⟩
        · cases h1
      have G := G4
      have M := M4
      obtain rfl : m = 0 := M4.out.1.symm
      clear hPo hV
      by_cases hneg : who < 0
      · obtain ⟨rfl, rfl⟩ : r1 = [] ∧ e = 1 := by
          rcases hPu.out with ⟨_, h1, h2⟩ | ⟨h1, _⟩ | ⟨h1, _⟩ | ⟨h1, _⟩
          · exact ⟨h1, h2⟩
          all_goals omega
        obtain ⟨rfl, rfl⟩ : r3 = [] ∧ g = 1 := by
          rcases hD.out with ⟨_, h1, h2⟩ | ⟨h1, _⟩ | ⟨h1, _⟩
          · exact ⟨h1, h2⟩
          all_goals omega
        obtain ⟨rfl, rfl⟩ : p = 0 ∧ h = 1 := by
          rcases hPl.out with ⟨_, h1, h2⟩ | ⟨h1, _⟩ | ⟨h1, _⟩
          · exact ⟨h1, h2⟩
          all_goals omega
        clear hPu hD hPl hl
        go_wp2_with fail
        go_ret
        exact ⟨rfl, G⟩
      · have hx : who ∉ ([] : List Int) := by simp
        have h64 : ¬ ([] : List Int).length = 64 := by simp
        obtain ⟨rfl, rfl⟩ : r3 = [] ∧ g = 4 := by
          rcases hD.out with ⟨h1, _⟩ | ⟨_, _, _, h1, h2⟩ | ⟨_, _, ⟨a, b, h1, _⟩, _⟩
          · exact absurd h1 (by rintro (h | h) <;> first | omega | exact h hl)
          · exact ⟨h1, h2⟩
          · exact absurd (by rw [h1]; simp) hx
        obtain ⟨rfl, rfl⟩ : p = 0 ∧ h = 4 := by
          rcases hPl.out with ⟨h1, _⟩ | ⟨_, _, _, h1, h2⟩ | ⟨_, _, ⟨a, b, h1, _⟩, _⟩
          · exact absurd h1 (by rintro (h | h) <;> first | omega | exact h hl)
          · exact ⟨h1, h2⟩
          · exact absurd (by rw [h1]; simp) hx
        have kp := fun c => Lib.hid (rPlace_no (c := c) M.out (by omega) hx)
        obtain ⟨hr, rfl⟩ : r1 = (if first = true then who :: [] else [] ++ [who]) ∧ e = 0 := by
          rcases hPu.out with ⟨h1, _⟩ | ⟨_, _, h1, _⟩ | ⟨_, _, _, h1, _⟩ | ⟨_, _, _, _, h1, h2⟩
          · exact absurd h1 (by rintro (h | h) <;> first | omega | exact h hl)
          · exact absurd h1 hx
          · exact absurd h1 h64
          · exact ⟨h1, h2⟩
        have kq := fun c => Lib.hid (rPush_is (c := c) M.out (by omega) hw hr)
        have hrl := Lib.hid (show r1.length ≤ 71 by
          have := M.out.1
          rw [hr]; split <;> simp <;> simp at this <;> omega)
        clear hPu hD hPl hl hx h64 hr
        go_wp2_with fail
        with_reducible refine (kp _).out.mono ?_
        rintro e w6 ⟨rfl, rfl⟩
        clear kp
        go_wp2_with fail
        with_reducible refine (kq _).out.mono ?_
        rintro e w7 ⟨C7, d7, rfl, own7, g7⟩
        have O7 := Lib.hid own7
        have ks := Lib.hid (rSame_is (v := true) (c := d1) (d := d7) (O1.out.gr g7).mem O7.out.mem (by have := hrl.out; omega) (by omega) (by simp))
        clear own7
        go_wp2_with fail
        with_reducible refine ks.out.mono ?_
        rintro e w8 ⟨rfl, g8⟩
        go_wp2_with fail
        go_ret
        exact ⟨rfl, G.trans (g7.trans g8)⟩
    | cons z zs =>
      obtain ⟨rfl, rfl, rfl⟩ : r2 = zs ∧ x = z ∧ f = 0 := by
        rcases hPo.out with ⟨h1, _⟩ | ⟨h1, _⟩ | ⟨_, h1, h3⟩
        · exact absurd hl h1
        · cases h1
        · injection h1 with h1 h2
          exact ⟨h2.symm, h1.symm, h3⟩
      have m0 : 0 < m := by have := M4.out.1; simp at this; omega
      obtain ⟨b0, off, z', rfl, hbl, hz, hiz, cz⟩ := M4.out.at_ m0
      obtain rfl : x = z' := by simpa using hz
      rw [Nat.add_zero] at cz
      obtain ⟨A2, HA⟩ : ∃ A2 : Option Addr, (c = 1 ∧ A2 = some ⟨b0, off, none⟩) ∨ (¬ c = 1 ∧ A2 = some ⟨b0, off + 1, none⟩) := by
        by_cases h : c = 1
        · exact ⟨_, .inl ⟨h, rfl⟩⟩
        · exact ⟨_, .inr ⟨h, rfl⟩⟩
      obtain ⟨m1, hm1⟩ : ∃ m1, m - 1 = m1 := ⟨_, rfl⟩
      have mr : r2.length = m1 := by have := M4.out.1; simp at this; omega
      have M2 : EMem (Value.int .i64) B64 w4 A2 m1 r2 := by
        rcases HA with ⟨h1, rfl⟩ | ⟨h1, rfl⟩
        · obtain rfl : m1 = 0 := by omega
          obtain rfl : r2 = [] := List.eq_nil_of_length_eq_zero mr
          exact EMem.nil_
        · have := M4.out.drop_ rfl 1 (by omega)
          rw [hm1] at this
          exact this
      have ks := Lib.hid (rSame_is (v := true) (c := d2) (d := c - 1) O2.out.mem M2 (by omega) (by omega) (by simp))
      have t0 : ((m : Int) == 0) = false := beq_eq_false_iff_ne.2 (by omega)
      have z1 : (1 : Int) ≤ (m : Int) := by omega
      have z2 : (m : Int) ≤ (c : Int) := by omega
      have z3 : (1 : Int) ≤ (c : Int) := by omega
      have z4 : (0 : Int) < (m : Int) := by omega
      rw [mr] at ks
      clear hz hPo hV M2
      rcases HA with ⟨rfl, rfl⟩ | ⟨hc1, rfl⟩
      all_goals (
        go_wp2_with fail
        with_reducible refine ks.out.mono ?_
        rintro e w5 ⟨rfl, g5⟩
        have G := G4.trans g5
        have M := Lib.hid (M4.out.gr g5)
        replace O1 := Lib.hid (O1.out.gr g5)
        replace O3 := Lib.hid (O3.out.gr g5)
        clear ks G4 M4 cz O2
        by_cases hneg : who < 0
        · obtain ⟨rfl, rfl⟩ : r1 = [] ∧ e = 1 := by
            rcases hPu.out with ⟨_, h1, h2⟩ | ⟨h1, _⟩ | ⟨h1, _⟩ | ⟨h1, _⟩
            · exact ⟨h1, h2⟩
            all_goals omega
          obtain ⟨rfl, rfl⟩ : r3 = [] ∧ g = 1 := by
            rcases hD.out with ⟨_, h1, h2⟩ | ⟨h1, _⟩ | ⟨h1, _⟩
            · exact ⟨h1, h2⟩
            all_goals omega
          obtain ⟨rfl, rfl⟩ : p = 0 ∧ h = 1 := by
            rcases hPl.out with ⟨_, h1, h2⟩ | ⟨h1, _⟩ | ⟨h1, _⟩
            · exact ⟨h1, h2⟩
            all_goals omega
          clear hPu hD hPl hl
          go_wp2_with fail
          go_ret
          exact ⟨rfl, G⟩
        · by_cases hx : who ∈ x :: r2
          · obtain ⟨rfl, rfl⟩ : r1 = [] ∧ e = 7 := by
              rcases hPu.out with ⟨h1, _⟩ | ⟨_, _, _, h1, h2⟩ | ⟨_, _, h1, _⟩ | ⟨_, _, h1, _⟩
              · exact absurd h1 (by rintro (h | h) <;> first | omega | exact h hl)
              · exact ⟨h1, h2⟩
              · exact absurd hx h1
              · exact absurd hx h1
            obtain ⟨hr, rfl⟩ : r3 = List.filter (fun y => y != who) ((x :: r2)) ∧ g = 0 := by
              rcases hD.out with ⟨h1, _⟩ | ⟨_, _, h1, _⟩ | ⟨_, _, ⟨a, b, h1, h2⟩, h3⟩
              · exact absurd h1 (by rintro (h | h) <;> first | omega | exact h hl)
              · exact absurd hx h1
              · exact ⟨by rw [h2, drop_filter hl.2 h1], h3⟩
            obtain ⟨a, b, hab, hp, rfl⟩ : ∃ a b, (x :: r2) = a ++ who :: b ∧ p = (a.length : Int) ∧ h = 0 := by
              rcases hPl.out with ⟨h1, _⟩ | ⟨_, _, h1, _⟩ | ⟨_, _, ⟨a, b, h1, h2⟩, h3⟩
              · exact absurd h1 (by rintro (h | h) <;> first | omega | exact h hl)
              · exact absurd hx h1
              · exact ⟨a, b, h1, h2, h3⟩
            obtain ⟨h4, h5⟩ := at_of hab hl.2
            have kp := fun c => Lib.hid (rPlace_at (c := c) M.out (by omega) h4 h5)
            clear h4 h5 hab
            generalize a.length = q at *
            subst hp
            have kq := fun c => Lib.hid (rWithout_is (c := c) M.out (by omega) hw hr)
            have hrl := Lib.hid (show r3.length ≤ 71 by
              have h1 := M.out.1
              have h2 := List.length_filter_le (fun y => y != who) ((x :: r2))
              rw [hr]
              omega)
            clear hPu hD hPl hl hx hr
            go_wp2_with fail
            with_reducible refine (kp _).out.mono ?_
            rintro e w6 ⟨rfl, rfl⟩
            clear kp
            go_wp2_with fail
            with_reducible refine (kq _).out.mono ?_
            rintro e w7 ⟨C7, d7, rfl, own7, g7⟩
            have O7 := Lib.hid own7
            have ks := Lib.hid (rSame_is (v := true) (c := d3) (d := d7) (O3.out.gr g7).mem O7.out.mem (by have := hrl.out; omega) (by have := hrl.out; omega) (by simp))
            clear own7
            go_wp2_with fail
            with_reducible refine ks.out.mono ?_
            rintro e w8 ⟨rfl, g8⟩
            go_wp2_with fail
            go_ret
            exact ⟨rfl, G.trans (g7.trans g8)⟩
          · obtain ⟨rfl, rfl⟩ : r3 = [] ∧ g = 4 := by
              rcases hD.out with ⟨h1, _⟩ | ⟨_, _, _, h1, h2⟩ | ⟨_, _, ⟨a, b, h1, _⟩, _⟩
              · exact absurd h1 (by rintro (h | h) <;> first | omega | exact h hl)
              · exact ⟨h1, h2⟩
              · exact absurd (by rw [h1]; simp) hx
            obtain ⟨rfl, rfl⟩ : p = 0 ∧ h = 4 := by
              rcases hPl.out with ⟨h1, _⟩ | ⟨_, _, _, h1, h2⟩ | ⟨_, _, ⟨a, b, h1, _⟩, _⟩
              · exact absurd h1 (by rintro (h | h) <;> first | omega | exact h hl)
              · exact ⟨h1, h2⟩
              · exact absurd (by rw [h1]; simp) hx
            have kp := fun c => Lib.hid (rPlace_no (c := c) M.out (by omega) hx)
            by_cases h64 : (x :: r2).length = 64
            · obtain ⟨rfl, rfl⟩ : r1 = [] ∧ e = 5 := by
                rcases hPu.out with ⟨h1, _⟩ | ⟨_, _, h1, _⟩ | ⟨_, _, _, _, h1, h2⟩ | ⟨_, _, _, h1, _⟩
                · exact absurd h1 (by rintro (h | h) <;> first | omega | exact h hl)
                · exact absurd h1 hx
                · exact ⟨h1, h2⟩
                · omega
              obtain rfl : m = 64 := by have := M.out.1; omega
              clear hPu hD hPl hl hx h64
              first
                | (exfalso; omega)
                | (go_wp2_with fail
                   with_reducible refine (kp _).out.mono ?_
                   rintro e w6 ⟨rfl, rfl⟩
                   go_wp2_with fail
                   go_ret
                   exact ⟨rfl, G⟩)
            · obtain ⟨hr, rfl⟩ : r1 = (if first = true then who :: (x :: r2) else (x :: r2) ++ [who]) ∧ e = 0 := by
                rcases hPu.out with ⟨h1, _⟩ | ⟨_, _, h1, _⟩ | ⟨_, _, _, h1, _⟩ | ⟨_, _, _, _, h1, h2⟩
                · exact absurd h1 (by rintro (h | h) <;> first | omega | exact h hl)
                · exact absurd h1 hx
                · exact absurd h1 h64
                · exact ⟨h1, h2⟩
              have n64 : ((m : Int) == 64) = false := beq_eq_false_iff_ne.2 (by have := M.out.1; omega)
              have kq := fun c => Lib.hid (rPush_is (c := c) M.out (by omega) hw hr)
              have hrl := Lib.hid (show r1.length ≤ 71 by
                have := M.out.1
                rw [hr]; split <;> simp <;> simp at this <;> omega)
              clear hPu hD hPl hl hx h64 hr
              go_wp2_with fail
              with_reducible refine (kp _).out.mono ?_
              rintro e w6 ⟨rfl, rfl⟩
              clear kp
              go_wp2_with fail
              with_reducible refine (kq _).out.mono ?_
              rintro e w7 ⟨C7, d7, rfl, own7, g7⟩
              have O7 := Lib.hid own7
              have ks := Lib.hid (rSame_is (v := true) (c := d1) (d := d7) (O1.out.gr g7).mem O7.out.mem (by have := hrl.out; omega) (by omega) (by simp))
              clear own7
              go_wp2_with fail
              with_reducible refine ks.out.mono ?_
              rintro e w8 ⟨rfl, g8⟩
              go_wp2_with fail
              go_ret
              exact ⟨rfl, G.trans (g7.trans g8)⟩
        )
theorem LineTells_walk (w : World) (A : Option Addr) (n c : Nat) (l : List Int) (hc : n ≤ c) (hn : n ≤ 9223372036854775807) (hm : IMem w A n l) (who : Int) (hw : B64 who) (first : Bool) :
    Calls Try.prog 3 #[.slice A n c, .int .i64 who, .bool first] w fun e w' => e = .returned (.bool true) ∧ Gr w w' := by
  obtain ⟨m, hmn⟩ := min70 n
  have hm2 := hm.take_ m (by omega)
  obtain ⟨r1, e, h1⟩ := PushR.any (l.take m) who first
  obtain ⟨r2, x, f, h2⟩ := PopR.any (l.take m)
  obtain ⟨r3, g, h3⟩ := DropR.any (l.take m) who
  obtain ⟨p, h, h4⟩ := PlaceR.any (l.take m) who
  obtain ⟨v, hv⟩ : ∃ v : Bool, v = true ↔ Ln (l.take m) := by
    by_cases hl : Ln (l.take m)
    · exact ⟨true, by simpa using hl⟩
    · exact ⟨false, by simpa using hl⟩
  exact tells_run hc hn hmn hm2 hw h1 h2 h3 h4 hv
set_option maxRecDepth 100000 in
theorem LineTells_lifted (os : Os) (started : os.Started) (H : Type) (enc : TypeId × Value → H) :
    ReturnsInHanded {} Try.checked os 3 .any (Rows.lineTellsSpec.pre6 enc Try.prog Try.f3 Rows.lineTellsRow.domain false) (Rows.lineTellsSpec.post enc Try.prog Try.f3 false true false false) := by
  refine returnsInHanded_of_change (C := Try.checked) own started (by kernel_rfl) Try.func3
    (ChangeSpec.witness6 (enc := enc) (C := Try.checked) false ⟨#[], #[.slice none 0 0, .int .i64 0, .bool false], []⟩ 8 (by kernel_rfl) (by kernel_rfl) (by kernel_rfl) (by kernel_rfl)) ?_
  intro W base args ds gs before hval0 hW hcnd _
  have hval : ∀ (j : Nat) t v, Try.f3.params[j]? = some t → args[j]? = some v → Value.okWide Try.prog W .any base t v := hval0
  have hW' := hW
  obtain ⟨p, q, hA0, hV, rfl, hfz, hnd⟩ := hW
  have hA : DataW.TrodAll enc Try.prog W 0 (fun _ => true) true Try.f3.params.toList args.toList ds p := hA0
  rw [Try.params3] at hA hval
  have hK := hA
  obtain ⟨v0, vs0, d0, ds0, p0, q0, hargs, rfl, hp, h0, r0⟩ := trodAll_cons hA
  obtain ⟨v1, vs1, d1, ds1, p1, q1, rfl, rfl, rfl, h1, r1⟩ := trodAll_cons r0
  obtain ⟨v2, vs2, d2, ds2, p2, q2, rfl, rfl, rfl, h2, r2⟩ := trodAll_cons r1
  obtain ⟨rfl, rfl, rfl⟩ := trodAll_nil r2
  obtain rfl : args = #[v0, v1, v2] := by cases args; simp_all
  obtain ⟨rfl, rfl⟩ := trodVars_none hV
  obtain ⟨A0, n0, c0, l0, rfl, hc0, hn0, hm0⟩ := open_ints (hval 0 22 v0 rfl rfl) h0
  obtain ⟨a1, rfl, rfl, rfl, w1⟩ := open_int Try.underlying3 (hval 1 3 v1 rfl rfl) h1
  obtain ⟨a2, rfl, rfl, rfl⟩ := open_bool Try.underlying4 (hval 2 4 v2 rfl rfl) h2
  clear hA0 hval0
  refine (LineTells_walk W A0 n0 c0 l0 hc0 hn0 hm0 a1 (wfb w1) a2).mono fun e W' ⟨he, hg⟩ => ?_
  subst he
  exact ⟨_, rfl, post_below (pa := p) (pv := []) hW' (fun _ _ _ => (trodAll_cons_mk (shut_bool Try.underlying4 _) trodAll_mk0))
    (fun sp hs => trodAll_stays laidOut hg sp (by kernel_rfl) hK (fun x hx => hW'.lt x (List.mem_append_left _ hx)) (fun x hx => hs x (List.mem_append_left _ hx))) (fun _ _ => rfl) rfl
    hg (ok_one (by kernel_rfl) rfl (okWide_bool_mk Try.underlying4 _))⟩

theorem LineTells_over : Rows.lineTellsRow.holds Try.pinned (OpenSpec.ofChange Rows.lineTellsSpec) :=
  OpenClaim.holds_of_wide 3 Try.f3 rfl rfl rfl rfl rfl rfl rfl ⟨rfl, rfl, rfl, rfl, rfl⟩ rfl rfl rfl rfl rfl (by kernel_rfl) Try.func3 (by kernel_rfl)
    (of_decide_eq_true (by kernel_rfl)) (by unfold Func.isWrapper; first | (rw [if_pos (by decide +kernel)]; kernel_rfl) | (rw [if_neg (by decide +kernel)]; exact ⟨rfl, rfl⟩))
    (fun os started H enc _ => LineTells_lifted os started H enc)

/-- The statement. -/
theorem LineTells_holds : Rows.LineTellsSaid :=
  LineTells_over
#print axioms LineTells_holds
end Go.Proofs.Ytchfdgoogfidlaa
