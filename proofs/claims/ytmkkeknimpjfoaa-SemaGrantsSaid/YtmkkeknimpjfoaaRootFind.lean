/-
  Package root: find.
-/
import Derived.Test.YtmkkeknimpjfoaaRootGrown
namespace Go.Proofs.Ytmkkeknimpjfoaa
open Go.ChangeShapes Go.WideShapes Go.ChangeAt Go.RowKit
set_option linter.unusedVariables false
set_option linter.unusedSimpArgs false

section
variable {w : World} {A : Option Addr} {n c : Nat} {L : List SV}
set_option maxHeartbeats 8000000 in
theorem rfind_is (hm : SMem w A n L) (ht : Tab L) {a : Int} (ha : IsKey a) {v : Bool} (hv : v = true ↔ Has L a) :
    Calls Try.prog 47 #[.slice A n c, .int .i64 a] w fun e w' => e = .returned (.tuple #[.int .i64 (plc L a : Int), .bool v]) ∧ Gr w w' := by
  have hlen := hm.1
  have HM := Lib.hid hm
  have HT := Lib.hid ht
  have HV := Lib.hid hv
  have HA := Lib.hid ha
  have hn : n ≤ 64 := by have := ht.1; omega
  have C1 := Lib.hid (fun W => Root_is a W)
  rw [rf_key ha, re_key ha] at C1
  have CG := Lib.hid (grown_is (c := c) hm ht (rt a))
  clear hm ht hv ha
  go_enter Try.func47, Try.ntmps47
  go_wp2_with fail
  with_reducible refine (C1.out _).mono ?_
  rintro e w1 ⟨rfl, hw1⟩
  obtain rfl : w = w1 := hw1.symm
  go_wp2_with fail
  with_reducible refine CG.out.mono ?_
  rintro e w2 ⟨r', A', n', c', l, t, rfl, hN, hG, hI, hb2⟩
  obtain ⟨d, e, hR, hE⟩ : ∃ d e, NextR l r' a d e ∧ ((e = 0 ∧ (und L (rt a)).find? (fun q => decide (a ≤ q)) = some d) ∨ (e = 4 ∧ (und L (rt a)).find? (fun q => decide (a ≤ q)) = none)) := by
    rw [← hI]
    cases hf : t.inord.find? (fun q => decide (a ≤ q)) with
    | some d => exact ⟨d, 0, .inr (.inr ⟨HA.out, t, hG, .inr ⟨hf, rfl⟩⟩), .inl ⟨rfl, rfl⟩⟩
    | none => exact ⟨0, 4, .inr (.inr ⟨HA.out, t, hG, .inl ⟨hf, rfl, rfl⟩⟩), .inr ⟨rfl, rfl⟩⟩
  have CN := Lib.hid (Next_is (c := c') hN hR)
  have HE := Lib.hid hE
  have G2 := Lib.hid hb2
  clear hN hG hI hR hE hb2 CG C1
  go_wp2_with fail
  with_reducible refine CN.out.mono ?_
  rintro ee w3 ⟨rfl, hb3⟩
  have G3 := Lib.hid (G2.out.trans hb3)
  clear hb3 CN
  go_wp2_with fail
  go_loopw [29] (fun i wr => ∃ k : Nat, k ≤ n ∧ i = .int .i64 (k : Int) ∧ Hid (∀ j y, j < k → L[j]? = some y → rt y.addr ≤ rt a ∧ (e = 0 → y.addr ≠ d)) ∧ Hid (Gr w wr)) (fun i _ => n - (intOf i).toNat)
  case atStart => exact ⟨0, Nat.zero_le _, rfl, Lib.hid (fun j y hj => absurd hj (by omega)), G3⟩
  case round =>
    clear G3 G2
    obtain ⟨k, hk, rfl, HP, HG⟩ := hrel
    by_cases hlt : k < n
    · obtain ⟨b, off, x, rfl, hbl, hx, hok, d0, d1, d2⟩ := (HM.out.gr HG.out).at_ hlt
      have HX := Lib.hid hx
      have k0 : (0 : Int) ≤ (k : Int) := by omega
      have k1 : (k : Int) < (n : Int) := by omega
      have hkey := Tab.key HT.out.2 (List.mem_of_getElem? hx)
      have C1 := Lib.hid (fun W => Root_is x.addr W)
      rw [rf_key hkey, re_key hkey] at C1
      have G1 := Lib.hid (HG.out.al (.cells #[.int .i64 x.addr, .int .i64 x.cnt, .slice x.A x.n x.c] 46))
      clear hx hok hkey
      by_cases hhit : e = 0 ∧ x.addr = d
      · obtain ⟨rfl, hxd⟩ := hhit
        have hf := (HE.out.resolve_right (fun h => absurd h.1 (by decide))).2
        obtain ⟨hp, hh⟩ := find_at HT.out.2 hf HX.out hxd (fun j y hj hy => ⟨(HP.out j y hj hy).2 rfl, (HP.out j y hj hy).1⟩)
        have hvd : v = (d == a) := by
          rw [Bool.eq_iff_iff, HV.out, ← hh, beq_iff_eq]
        have HPL := Lib.hid hp
        subst hxd
        clear hp hh hf C1 HV
        subst hvd
        go_wp2_with fail
        go_ret2
        exact ⟨by rw [HPL.out]; first | done | rfl, G1.out⟩
      · have hP1 : ∀ y, y = x → (e = 0 → y.addr ≠ d) := fun y hy he hc => hhit ⟨he, hy ▸ hc⟩
        by_cases hfar : rt a < rt x.addr
        · obtain ⟨hp, hh⟩ := find_far HT.out.2 HX.out hfar (fun j y hj hy => (HP.out j y hj hy).1) (fun d' hd' j y hj hy => by
            rcases HE.out with ⟨he, h⟩ | ⟨he, h⟩
            · rw [h] at hd'; cases hd'; exact (HP.out j y hj hy).2 he
            · rw [h] at hd'; cases hd')
          have HPL := Lib.hid hp
          obtain rfl : v = false := by
            cases v
            · rfl
            · exact absurd (HV.out.1 rfl) hh
          clear hp hh HV
          generalize rt x.addr = q at *
          rcases HE.out with ⟨rfl, _⟩ | ⟨rfl, _⟩
          · have hne : (x.addr == d) = false := beq_eq_false_iff_ne.2 (hP1 x rfl rfl)
            clear hP1 hhit
            go_wp2_with fail
            with_reducible refine (C1.out _).mono ?_
            rintro ee w5 ⟨rfl, rfl⟩
            go_wp2_with fail
            go_ret2
            exact ⟨by rw [HPL.out]; first | done | rfl, G1.out⟩
          · clear hP1 hhit
            go_wp2_with fail
            with_reducible refine (C1.out _).mono ?_
            rintro ee w5 ⟨rfl, rfl⟩
            go_wp2_with fail
            go_ret2
            exact ⟨by rw [HPL.out]; first | done | rfl, G1.out⟩
        · have HP' : Hid (∀ j y, j < k + 1 → L[j]? = some y → rt y.addr ≤ rt a ∧ (e = 0 → y.addr ≠ d)) := Lib.hid fun j y hj hy => by
            by_cases hjk : j < k
            · exact HP.out j y hjk hy
            · obtain rfl : j = k := by omega
              rw [HX.out] at hy
              cases hy
              exact ⟨by omega, hP1 x rfl⟩
          generalize rt x.addr = q at *
          rcases HE.out with ⟨rfl, _⟩ | ⟨rfl, _⟩
          · have hne : (x.addr == d) = false := beq_eq_false_iff_ne.2 (hP1 x rfl rfl)
            clear hP1 hhit
            go_wp2_with fail
            with_reducible refine (C1.out _).mono ?_
            rintro ee w5 ⟨rfl, rfl⟩
            go_wp2_with fail
            go_roundw
            case rel => exact ⟨k + 1, by omega, by go_num, HP', G1⟩
            case measure => simp [intOf]; omega
          · clear hP1 hhit
            go_wp2_with fail
            with_reducible refine (C1.out _).mono ?_
            rintro ee w5 ⟨rfl, rfl⟩
            go_wp2_with fail
            go_roundw
            case rel => exact ⟨k + 1, by omega, by go_num, HP', G1⟩
            case measure => simp [intOf]; omega
    · obtain rfl : k = n := by omega
      obtain ⟨hp, hh⟩ := find_end HT.out.2 (fun y hy => by
        obtain ⟨j, hj⟩ := List.mem_iff_getElem?.1 hy
        exact (HP.out j y (by have := (List.getElem?_eq_some_iff.1 hj).1; omega) hj).1) (fun d' hd' y hy => by
        obtain ⟨j, hj⟩ := List.mem_iff_getElem?.1 hy
        rcases HE.out with ⟨he, h⟩ | ⟨he, h⟩
        · rw [h] at hd'; cases hd'; exact (HP.out j y (by have := (List.getElem?_eq_some_iff.1 hj).1; omega) hj).2 he
        · rw [h] at hd'; cases hd')
      obtain rfl : v = false := by
        cases v
        · rfl
        · exact absurd (HV.out.1 rfl) hh
      have HPL := Lib.hid (hp.trans hlen)
      clear hp hh HV
      go_wp2_with fail
      go_ret2
      exact ⟨by rw [HPL.out]; first | done | rfl, HG.out⟩
end
end Go.Proofs.Ytmkkeknimpjfoaa
