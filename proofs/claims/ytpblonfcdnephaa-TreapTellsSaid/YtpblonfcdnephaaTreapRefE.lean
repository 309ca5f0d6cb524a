/-
  The reference of package treap: Depth.
-/
import Derived.Test.YtpblonfcdnephaaTreapRefC
import Derived.Deep.QuietTactic
import Derived.BigQuiet
namespace Go.Proofs.Ytpblonfcdnephaa
open Go.ChangeShapes Go.WideShapes Go.ChangeAt Go.RowKit
set_option linter.unusedVariables false
set_option linter.unusedSimpArgs false

section
variable {w : World}
set_option maxRecDepth 100000 in
set_option maxHeartbeats 8000000 in
theorem rDepth_is : ∀ (t : T) (lo hi wt x : Int) (A : Option Addr) (n c : Nat) (W : World), Bst t lo hi → Hp t wt → (∀ y ∈ t.inord, IsKey y) → x ∈ t.inord → t.size ≤ 1000 → IMem W A n t.inord → n ≤ c → c ≤ 9223372036854775807 →
    Calls Try.prog 22 #[.slice A n c, .int .i64 x] W fun e w' => e = .returned (.int .i64 (dpt t x : Int)) ∧ Gr W w'
  | .nil, _, _, _, x, _, _, _, _, _, _, _, h, _, _, _, _ => by simp [T.inord] at h
  | .node i0 k L R, lo, hi, wt, x, A, n, c, W, hb, hp, hkey, hx, hsz, hm, hc, hcm => by
    have ihL := rDepth_is L lo k (pri k) x
    have ihR := rDepth_is R k hi (pri k) x
    obtain ⟨b1, b2, b3, b4⟩ := hb
    obtain ⟨p1, p2, p3⟩ := hp
    have hlen := hm.1
    have hln : n = L.size + R.size + 1 := by rw [← hlen, T.inord_len]; rfl
    have hLl := T.inord_len L
    have hRl := T.inord_len R
    obtain ⟨b, off, hA, hbl, _⟩ := hm.2.2 (by omega)
    subst hA
    have hat : ∀ j y, (T.node i0 k L R).inord[j]? = some y → (j < L.size → pri y < pri k ∧ y < k) ∧ (j = L.size → y = k) ∧ (L.size < j → pri y < pri k) := fun j y hy => by
      simp only [T.inord] at hy
      refine ⟨fun h => ?_, fun h => ?_, fun h => ?_⟩
      · rw [List.getElem?_append_left (by omega)] at hy
        have := List.mem_of_getElem? hy
        exact ⟨p2.le this, (b3.mem this).2⟩
      · rw [List.getElem?_append_right (by omega), hLl, h, Nat.sub_self] at hy
        simpa using hy.symm
      · rw [List.getElem?_append_right (by omega), hLl] at hy
        obtain ⟨q, hq⟩ : ∃ q, j - L.size = q + 1 := ⟨j - L.size - 1, by omega⟩
        rw [hq, List.getElem?_cons_succ] at hy
        exact p3.le (List.mem_of_getElem? hy)
    have HAT := Lib.hid hat
    have HM := Lib.hid hm
    have HKey := Lib.hid hkey
    have hpos : L.size < n := by omega
    obtain ⟨s, hs⟩ : ∃ s, L.size = s := ⟨_, rfl⟩
    have HS := Lib.hid hs
    rw [hs] at hpos
    have HLN := Lib.hid hln
    have HRest := Lib.hid (And.intro b3 (And.intro b4 (And.intro p2 p3)))
    have HX := Lib.hid hx
    have HI := Lib.hid (And.intro ihL ihR)
    have HSZ := Lib.hid hsz
    obtain ⟨D, hD⟩ : ∃ D : Nat, dpt (T.node i0 k L R) x = D := ⟨_, rfl⟩
    rw [hD]
    have HD := Lib.hid hD
    clear hD
    clear hat hm hkey ihL ihR b1 b2 b3 b4 p1 p2 p3 hlen hln hLl hRl hx hs hsz
    go_enter Try.func22, Try.ntmps22
    go_wp2_with fail
    go_loopw [5, 10] (fun V i wr => ∃ (j tp : Nat), j ≤ n ∧ i = .int .i64 (j : Int) ∧ V = .int .i64 (tp : Int) ∧ tp ≤ s ∧ (s < j → tp = s) ∧ Hid (Gr W wr)) (fun _ i _ => n - (intOf i).toNat)
    case atStart => exact ⟨0, 0, Nat.zero_le _, rfl, rfl, Nat.zero_le _, fun h => absurd h (by omega), Lib.hid (Gr.refl _)⟩
    case round =>
      obtain ⟨j, tp, hj, rfl, rfl, htp, htp2, HR⟩ := hrel
      by_cases hlt : j < n
      · obtain ⟨b', off', y, eb, hbl', hy, hiy, cy⟩ := (HM.out.gr HR.out).at_ hlt
        cases eb
        obtain ⟨b', off', z, eb, hbl'', hz, hiz, cz⟩ := (HM.out.gr HR.out).at_ (show tp < n from by omega)
        cases eb
        have e1 : (0 : Int) ≤ (tp : Int) := by omega
        have e2 : (tp : Int) < (n : Int) := by omega
        have hPy := fun W => rPri_is (HKey.out y (List.mem_of_getElem? hy)) W
        have hPz := fun W => rPri_is (HKey.out z (List.mem_of_getElem? hz)) W
        have hup : pri z < pri y → j ≤ s := fun h => by
          apply Classical.byContradiction
          intro hjs
          have h1 := htp2 (by omega)
          subst h1
          have hzk := (HAT.out tp z hz).2.1 HS.out.symm
          have := (HAT.out j y hy).2.2 (by rw [HS.out]; omega)
          rw [hzk] at h
          omega
        have hup2 : ¬ pri z < pri y → j = s → tp = s := fun h hjs => by
          subst hjs
          have hyk := (HAT.out j y hy).2.1 HS.out.symm
          apply Classical.byContradiction
          intro hne
          have := ((HAT.out tp z hz).1 (by rw [HS.out]; omega)).1
          rw [hyk] at h
          exact h this
        generalize pri y = py at *
        generalize pri z = pz at *
        have k1 := Lib.hid hPy
        have k2 := Lib.hid hPz
        clear hPy hPz hy hz hbl' hbl''
        by_cases hgt : pz < py
        · have h1 := hup hgt
          have HT := Lib.hid (show s < j + 1 → j = s from fun h => by omega)
          clear hup hup2 htp2 htp
          go_wp2_with fail
          go_quiet ((go_at_call 14; first | (with_reducible exact Calls.quiet_of_same (k1.out _)) | (with_reducible exact Calls.quiet_of_same (k2.out _))))
          go_wp2_with fail
          go_roundw
          case rel => exact ⟨j + 1, j, by omega, by go_num, rfl, h1, HT.out, Lib.hid (HR.out.drN _)⟩
          case measure => simp [intOf]; omega
        · have h2 := hup2 hgt
          have HT := Lib.hid (show s < j + 1 → tp = s from fun h => by
            by_cases e : j = s
            · exact h2 e
            · exact htp2 (by omega))
          clear hup hup2 htp2 h2
          go_wp2_with fail
          go_quiet ((go_at_call 14; first | (with_reducible exact Calls.quiet_of_same (k1.out _)) | (with_reducible exact Calls.quiet_of_same (k2.out _))))
          go_wp2_with fail
          go_roundw
          case rel => exact ⟨j + 1, tp, by omega, by go_num, rfl, htp, HT.out, Lib.hid (HR.out.drN _)⟩
          case measure => simp [intOf]; omega
      · obtain rfl : j = n := by omega
        obtain rfl : tp = s := htp2 hpos
        obtain ⟨b', off', z, eb, hbl'', hz, hiz, cz⟩ := (HM.out.gr HR.out).at_ hpos
        cases eb
        have hzk := (HAT.out tp z hz).2.1 HS.out.symm
        subst hzk
        have e1 : (0 : Int) ≤ (tp : Int) := by omega
        have e2 : (tp : Int) < (j : Int) := by omega
        clear hz hbl'' htp htp2 hlt hj
        by_cases he : z = x
        · have hd : dpt (T.node i0 z L R) x = 0 := by rw [dpt, if_pos he.symm]
          have hD0 : D = 0 := by rw [← HD.out, hd]
          subst hD0
          clear HD hd
          subst he
          go_wp2_with fail
          go_ret
          exact ⟨rfl, HR.out⟩
        · have ne : (z == x) = false := beq_eq_false_iff_ne.2 he
          have hx := HX.out
          simp only [T.inord, List.mem_append, List.mem_cons] at hx
          obtain ⟨hbL, hbR, hpL, hpR⟩ := HRest.out
          have hln := HLN.out
          have hsz := HSZ.out
          simp only [T.size] at hsz
          have hkL : ∀ y ∈ L.inord, IsKey y := fun y hy => HKey.out y (by simp [T.inord, hy])
          have hkR : ∀ y ∈ R.inord, IsKey y := fun y hy => HKey.out y (by simp [T.inord, hy])
          have hml := HM.out.gr HR.out
          have hLl := T.inord_len L
          by_cases hlt2 : x < z
          · have hxL : x ∈ L.inord := by
              rcases hx with h | h | h
              · exact h
              · exact absurd h.symm he
              · have := (hbR.mem h).1; omega
            have hd : dpt (T.node i0 z L R) x = dpt L x + 1 := by rw [dpt, if_neg (fun e => he e.symm), if_pos hlt2]
            have hmt : IMem wr (some ⟨b, off, none⟩) tp L.inord := by
              have h := hml.take_ tp (by omega)
              simp only [T.inord] at h
              rwa [List.take_append_of_le_length (by rw [hLl, HS.out]; exact Nat.le_refl _), List.take_of_length_le (by rw [hLl, HS.out]; exact Nat.le_refl _)] at h
            have hdl : dpt L x ≤ 1000 := Nat.le_trans dpt_le (by omega)
            obtain ⟨d, hdd⟩ : ∃ d, dpt L x = d := ⟨_, rfl⟩
            have kI := Lib.hid (HI.out.1 (some ⟨b, off, none⟩) tp c wr hbL hpL hkL hxL (by omega) hmt (by omega) hcm)
            rw [hdd] at kI hdl hd
            rw [HD.out] at hd
            have e3 : IntKind.i64.wrap (1 + (d : Int)) = (D : Int) := by rw [wrap_id (by omega) (by omega)]; omega
            have e4 : (tp : Int) ≤ (c : Int) := by omega
            have hgt2 : ¬ z ≤ x := by omega
            clear hx hbL hbR hpL hpR hln hsz hkL hkR hml hLl hxL hd hmt hdd HRest HI HX HAT HD hpos hdl
            go_wp2_with fail
            with_reducible refine kI.out.mono ?_
            rintro e w3 ⟨rfl, hb3⟩
            go_wp2_with fail
            go_ret
            exact ⟨rfl, HR.out.trans hb3⟩
          · have hxR : x ∈ R.inord := by
              rcases hx with h | h | h
              · have := (hbL.mem h).2; omega
              · exact absurd h.symm he
              · exact h
            have hd : dpt (T.node i0 z L R) x = dpt R x + 1 := by rw [dpt, if_neg (fun e => he e.symm), if_neg hlt2]
            have hR0 : 0 < R.size := by have := List.length_pos_of_mem hxR; rwa [T.inord_len] at this
            have hs1 := HS.out
            have hmt : IMem wr (some ⟨b, off + (tp + 1), none⟩) (j - (tp + 1)) R.inord := by
              have h := hml.drop_ rfl (tp + 1) (by omega)
              simp only [T.inord] at h
              rwa [List.drop_append, List.drop_of_length_le (by omega), List.nil_append, hLl, hs1, show tp + 1 - tp = 1 from by omega, List.drop_succ_cons, List.drop_zero] at h
            have hdl : dpt R x ≤ 1000 := Nat.le_trans dpt_le (by omega)
            obtain ⟨d, hdd⟩ : ∃ d, dpt R x = d := ⟨_, rfl⟩
            obtain ⟨q, hq⟩ : ∃ q, j - (tp + 1) = q := ⟨_, rfl⟩
            obtain ⟨cc, hcc⟩ : ∃ cc, c - (tp + 1) = cc := ⟨_, rfl⟩
            have hcc0 : cc ≠ 0 := by omega
            have kI := Lib.hid (HI.out.2 (some ⟨b, off + (tp + 1), none⟩) q cc wr hbR hpR hkR hxR (by omega) (hq ▸ hmt) (by omega) (by omega))
            rw [hdd] at kI hdl hd
            rw [HD.out] at hd
            have e3 : IntKind.i64.wrap (1 + (d : Int)) = (D : Int) := by rw [wrap_id (by omega) (by omega)]; omega
            have e4 : IntKind.i64.wrap ((tp : Int) + 1) = ((tp + 1 : Nat) : Int) := by rw [wrap_id (by omega) (by omega)]; omega
            have e5 : ((tp + 1 : Nat) : Int) ≤ (j : Int) := by omega
            have e6 : (0 : Int) ≤ ((tp + 1 : Nat) : Int) := by omega
            have e7 : (j : Int) ≤ (c : Int) := by omega
            have hgt2 : z < x := by omega
            clear hx hbL hbR hpL hpR hln hsz hkL hkR hml hLl hxR hd hmt hdd HRest HI HX HAT HD hpos hdl hR0 hs1
            go_wp2_with fail
            with_reducible refine kI.out.mono ?_
            rintro e w3 ⟨rfl, hb3⟩
            go_wp2_with fail
            go_ret
            exact ⟨rfl, HR.out.trans hb3⟩
end
end Go.Proofs.Ytpblonfcdnephaa
