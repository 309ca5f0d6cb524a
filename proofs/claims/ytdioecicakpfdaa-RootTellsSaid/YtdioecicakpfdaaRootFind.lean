/-
  Package root: find; Under.
-/
import Derived.Test.YtdioecicakpfdaaRootGrown
namespace Go.Proofs.Ytdioecicakpfdaa
open Go.ChangeShapes Go.WideShapes Go.ChangeAt Go.RowKit
set_option linter.unusedVariables false
set_option linter.unusedSimpArgs false

section
variable {w : World} {A : Option Addr} {n c : Nat} {L : List SV}
set_option maxHeartbeats 8000000 in
theorem rfind_is (hm : SMem w A n L) (ht : Tab L) {a : Int} (ha : IsKey a) {v : Bool} (hv : v = true ↔ Has L a) :
    Calls Try.prog 26 #[.slice A n c, .int .i64 a] w fun e w' => e = .returned (.tuple #[.int .i64 (plc L a : Int), .bool v]) ∧ Gr w w' := by
  have hlen := hm.1
  have HM := Lib.hid hm
  have HT := Lib.hid ht
  have HV := Lib.hid hv
  have HA := Lib.hid ha
  have hn : n ≤ 64 := by have := ht.1; omega
  have C1 := Lib.hid (fun W => Root_is a W)
  rw [rf_key ha, re_key ha] at C1
  have CG := Lib.hid (grown_is (c := c) hm ht (rt a))
  clear hm ht hv ha
  go_enter Try.func26, Try.ntmps26
  go_wp2_with fail
  with_reducible refine (C1.out _).mono ?_
  rintro e w1 ⟨rfl, hw1⟩
  obtain rfl : w = w1 := hw1.symm
  go_wp2_with fail
  with_reducible refine CG.out.mono ?_
  rintro e w2 ⟨r', A', n', c', l, t, rfl, hN, hG, hI, hb2⟩
  obtain ⟨d, e, hR, hE⟩ : ∃ d e, NextR l r' a d e ∧ ((e = 0 ∧ (und L (rt a)).find? (fun q => decide (a ≤ q)) = some d) ∨ (e = 4 ∧ (und L (rt a)).find? (fun q => decide (a ≤ q)) = none)) := by
    rw [← hI]
    cases hf : t.inord.find? (fun q => decide (a ≤ q)) with
    | some d => exact ⟨d, 0, .inr (.inr ⟨HA.out, t, hG, .inr ⟨hf, rfl⟩⟩), .inl ⟨rfl, rfl⟩⟩
    | none => exact ⟨0, 4, .inr (.inr ⟨HA.out, t, hG, .inl ⟨hf, rfl, rfl⟩⟩), .inr ⟨rfl, rfl⟩⟩
  have CN := Lib.hid (Next_is (c := c') hN hR)
  have HE := Lib.hid hE
  have G2 := Lib.hid hb2
  clear hN hG hI hR hE hb2 CG C1
  go_wp2_with fail
  with_reducible refine CN.out.mono ?_
  rintro ee w3 ⟨rfl, hb3⟩
  have G3 := Lib.hid (G2.out.trans hb3)
  clear hb3 CN
  go_wp2_with fail
  go_loopw [29] (fun i wr => ∃ k : Nat, k ≤ n ∧ i = .int .i64 (k : Int) ∧ Hid (∀ j y, j < k → L[j]? = some y → rt y.addr ≤ rt a ∧ (e = 0 → y.addr ≠ d)) ∧ Hid (Gr w wr)) (fun i _ => n - (intOf i).toNat)
  case atStart => exact ⟨0, Nat.zero_le _, rfl, Lib.hid (fun j y hj => absurd hj (by omega)), G3⟩
  case round =>
    clear G3 G2
    obtain ⟨k, hk, rfl, HP, HG⟩ := hrel
    by_cases hlt : k < n
    · obtain ⟨b, off, x, rfl, hbl, hx, hok, d0, d1, d2⟩ := (HM.out.gr HG.out).at_ hlt
      have HX := Lib.hid hx
      have k0 : (0 : Int) ≤ (k : Int) := by omega
      have k1 : (k : Int) < (n : Int) := by omega
      have hkey := Tab.key HT.out.2 (List.mem_of_getElem? hx)
      have C1 := Lib.hid (fun W => Root_is x.addr W)
      rw [rf_key hkey, re_key hkey] at C1
      have G1 := Lib.hid (HG.out.al (.cells #[.int .i64 x.addr, .int .i64 x.cnt, .slice x.A x.n x.c] 25))
      clear hx hok hkey
      by_cases hhit : e = 0 ∧ x.addr = d
      · obtain ⟨rfl, hxd⟩ := hhit
        have hf := (HE.out.resolve_right (fun h => absurd h.1 (by decide))).2
        obtain ⟨hp, hh⟩ := find_at HT.out.2 hf HX.out hxd (fun j y hj hy => ⟨(HP.out j y hj hy).2 rfl, (HP.out j y hj hy).1⟩)
        have hvd : v = (d == a) := by
          rw [Bool.eq_iff_iff, HV.out, ← hh, beq_iff_eq]
        have HPL := Lib.hid hp
        subst hxd
        clear hp hh hf C1 HV
        subst hvd
        go_wp2_with fail
        go_ret2
        exact ⟨by rw [HPL.out]; first | done | rfl, G1.out⟩
      · have hP1 : ∀ y, y = x → (e = 0 → y.addr ≠ d) := fun y hy he hc => hhit ⟨he, hy ▸ hc⟩
        by_cases hfar : rt a < rt x.addr
        · obtain ⟨hp, hh⟩ := find_far HT.out.2 HX.out hfar (fun j y hj hy => (HP.out j y hj hy).1) (fun d' hd' j y hj hy => by
            rcases HE.out with ⟨he, h⟩ | ⟨he, h⟩
            · rw [h] at hd'; cases hd'; exact (HP.out j y hj hy).2 he
            · rw [h] at hd'; cases hd')
          have HPL := Lib.hid hp
          obtain rfl : v = false := by
            cases v
            · rfl
            · exact absurd (HV.out.1 rfl) hh
          clear hp hh HV
          generalize rt x.addr = q at *
          rcases HE.out with ⟨rfl, _⟩ | ⟨rfl, _⟩
          · have hne : (x.addr == d) = false := beq_eq_false_iff_ne.2 (hP1 x rfl rfl)
            clear hP1 hhit
            go_wp2_with fail
            with_reducible refine (C1.out _).mono ?_
            rintro ee w5 ⟨rfl, rfl⟩
            go_wp2_with fail
            go_ret2
            exact ⟨by rw [HPL.out]; first | done | rfl, G1.out⟩
          · clear hP1 hhit
            go_wp2_with fail
            with_reducible refine (C1.out _).mono ?_
            rintro ee w5 ⟨rfl, rfl⟩
            go_wp2_with fail
            go_ret2
            exact ⟨by rw [HPL.out]; first | done | rfl, G1.out⟩
        · have HP' : Hid (∀ j y, j < k + 1 → L[j]? = some y → rt y.addr ≤ rt a ∧ (e = 0 → y.addr ≠ d)) := Lib.hid fun j y hj hy => by
            by_cases hjk : j < k
            · exact HP.out j y hjk hy
            · obtain rfl : j = k := by omega
              rw [HX.out] at hy
              cases hy
              exact ⟨by omega, hP1 x rfl⟩
          generalize rt x.addr = q at *
          rcases HE.out with ⟨rfl, _⟩ | ⟨rfl, _⟩
          · have hne : (x.addr == d) = false := beq_eq_false_iff_ne.2 (hP1 x rfl rfl)
            clear hP1 hhit
            go_wp2_with fail
            with_reducible refine (C1.out _).mono ?_
            rintro ee w5 ⟨rfl, rfl⟩
            go_wp2_with fail
            go_roundw
            case rel => exact ⟨k + 1, by omega, by go_num, HP', G1⟩
            case measure => simp [intOf]; omega
          · clear hP1 hhit
            go_wp2_with fail
            with_reducible refine (C1.out _).mono ?_
            rintro ee w5 ⟨rfl, rfl⟩
            go_wp2_with fail
            go_roundw
            case rel => exact ⟨k + 1, by omega, by go_num, HP', G1⟩
            case measure => simp [intOf]; omega
    · obtain rfl : k = n := by omega
      obtain ⟨hp, hh⟩ := find_end HT.out.2 (fun y hy => by
        obtain ⟨j, hj⟩ := List.mem_iff_getElem?.1 hy
        exact (HP.out j y (by have := (List.getElem?_eq_some_iff.1 hj).1; omega) hj).1) (fun d' hd' y hy => by
        obtain ⟨j, hj⟩ := List.mem_iff_getElem?.1 hy
        rcases HE.out with ⟨he, h⟩ | ⟨he, h⟩
        · rw [h] at hd'; cases hd'; exact (HP.out j y (by have := (List.getElem?_eq_some_iff.1 hj).1; omega) hj).2 he
        · rw [h] at hd'; cases hd')
      obtain rfl : v = false := by
        cases v
        · rfl
        · exact absurd (HV.out.1 rfl) hh
      have HPL := Lib.hid (hp.trans hlen)
      clear hp hh HV
      go_wp2_with fail
      go_ret2
      exact ⟨by rw [HPL.out]; first | done | rfl, HG.out⟩
/-- What Under answers. -/
def UndR (L : List SV) (r : Int) (R : List Int) (e : Int) : Prop := ((¬ Tab L ∨ r < 0 ∨ 250 < r) ∧ R = [] ∧ e = 1) ∨ (Tab L ∧ 0 ≤ r ∧ r ≤ 250 ∧ R = und L r ∧ e = 0)
theorem UndR.any (L : List SV) (r : Int) : ∃ R e, UndR L r R e := by
  by_cases h : Tab L ∧ 0 ≤ r ∧ r ≤ 250
  · exact ⟨_, _, .inr ⟨h.1, h.2.1, h.2.2, rfl, rfl⟩⟩
  · refine ⟨_, _, .inl ⟨?_, rfl, rfl⟩⟩
    by_cases ht : Tab L
    · exact .inr (by have : ¬ (0 ≤ r ∧ r ≤ 250) := fun h' => h ⟨ht, h'⟩; omega)
    · exact .inl ht
set_option maxHeartbeats 8000000 in
theorem Under_is (hm : SMem w A n L) {r : Int} {R : List Int} {e : Int} (h : UndR L r R e) :
    Calls Try.prog 11 #[.slice A n c, .int .i64 r] w fun ee w' => ∃ C k, ee = .returned (.tuple #[.slice C R.length k, .int .i64 e]) ∧ IMem w' C R.length R ∧ R.length ≤ k ∧ Gr w w' := by
  obtain ⟨b, hb⟩ := yes_no (Tab L)
  have CR := Lib.hid (RRight_is (c := c) hm hb)
  by_cases h1 : r < 0
  · obtain ⟨_, rfl, rfl⟩ := h.resolve_right (fun h' => by omega)
    clear CR hb h
    go_enter Try.func11, Try.ntmps11
    go_wp2_with fail
    go_ret2
    first | exact ⟨none, 0, rfl, EMem.nil_, Nat.le_refl _, Gr.refl _⟩ | exact ⟨none, ⟨0, rfl⟩, EMem.nil_, Gr.refl _⟩
  · by_cases h2 : 251 ≤ r
    · obtain ⟨_, rfl, rfl⟩ := h.resolve_right (fun h' => by omega)
      clear CR hb h
      go_enter Try.func11, Try.ntmps11
      go_wp2_with fail
      go_ret2
      first | exact ⟨none, 0, rfl, EMem.nil_, Nat.le_refl _, Gr.refl _⟩ | exact ⟨none, ⟨0, rfl⟩, EMem.nil_, Gr.refl _⟩
    · cases b with
      | false =>
        obtain ⟨_, rfl, rfl⟩ := h.resolve_right (fun h' => absurd (hb.2 h'.1) (by simp))
        clear hb h
        go_enter Try.func11, Try.ntmps11
        go_wp2_with fail
        with_reducible refine CR.out.mono ?_
        rintro ee w1 ⟨rfl, hb1⟩
        have G1 := Lib.hid hb1
        clear hb1
        go_wp2_with fail
        go_ret2
        first | exact ⟨none, 0, rfl, EMem.nil_, Nat.le_refl _, G1.out⟩ | exact ⟨none, ⟨0, rfl⟩, EMem.nil_, G1.out⟩
      | true =>
        have ht := hb.1 rfl
        obtain ⟨_, _, _, rfl, rfl⟩ := h.resolve_left (fun h' => by rcases h'.1 with h3 | h3 | h3 <;> first | exact h3 ht | omega)
        have HT := Lib.hid ht
        have HM := Lib.hid hm
        obtain ⟨R, hR⟩ : ∃ R, und L r = R := ⟨_, rfl⟩
        rw [hR]
        have HRR := Lib.hid hR
        clear hb h ht hm hR
        go_enter Try.func11, Try.ntmps11
        go_wp2_with fail
        with_reducible refine CR.out.mono ?_
        rintro ee w1 ⟨rfl, hb1⟩
        have G1 := Lib.hid hb1
        have CG := Lib.hid (grown_is (c := c) (HM.out.gr hb1) HT.out r)
        clear hb1
        go_wp2_with fail
        with_reducible refine CG.out.mono ?_
        rintro ee w2 ⟨r', A', n', c', l, t, rfl, hN, hG, hI, hb2⟩
        have G2 := Lib.hid (G1.out.trans hb2)
        have CK := Lib.hid (Keys_is (c := c') hN (R := t.inord) (e := 0) (.inr ⟨t, hG, rfl, rfl⟩))
        rw [hI, HRR.out] at CK
        clear hb2 hN hG hI
        go_wp2_with fail
        with_reducible refine CK.out.mono ?_
        rintro ee w3 ⟨C, k, rfl, own3, hb3⟩
        have G3 := Lib.hid (G2.out.trans hb3)
        have O3 := Lib.hid own3
        clear hb3 own3
        go_wp2_with fail
        go_ret2
        exact ⟨C, k, rfl, O3.out.mem, O3.out.le, G3.out⟩
end
end Go.Proofs.Ytdioecicakpfdaa
