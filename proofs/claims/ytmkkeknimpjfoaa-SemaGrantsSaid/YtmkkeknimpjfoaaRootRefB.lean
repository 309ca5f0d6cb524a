/-
  deadboltref09: Spots, Same, Under, Get.
-/
import Derived.Test.YtmkkeknimpjfoaaRootGet
import Derived.Test.YtmkkeknimpjfoaaRootRef
namespace Go.Proofs.Ytmkkeknimpjfoaa
open Go.ChangeShapes Go.WideShapes Go.ChangeAt Go.RowKit
set_option linter.unusedVariables false
set_option linter.unusedSimpArgs false

theorem pl_iff {x y : SV} : x.pl = y.pl ↔ x.addr = y.addr ∧ x.cnt = y.cnt ∧ x.line = y.line := by simp [SV.pl]
section
variable {w : World}
set_option maxHeartbeats 4000000 in
theorem rSpots_is {x y : SV} (hx : x.ok w) (hy : y.ok w) {v : Bool} (hv : v = true ↔ x.pl = y.pl) :
    Calls Try.prog 20 #[.agg #[.int .i64 x.addr, .int .i64 x.cnt, .slice x.A x.n x.c], .agg #[.int .i64 y.addr, .int .i64 y.cnt, .slice y.A y.n y.c]] w fun e w' => e = .returned (.bool v) ∧ Gr w w' := by
  have g0 := ((Gr.refl w).al (.cells #[.int .i64 x.addr, .int .i64 x.cnt, .slice x.A x.n x.c] 46)).al (.cells #[.int .i64 y.addr, .int .i64 y.cnt, .slice y.A y.n y.c] 46)
  obtain ⟨b, hb⟩ := yes_no (x.line = y.line)
  have CS := Lib.hid (L7.rSame_is (c := x.c) (d := y.c) (hx.gr g0).2.2.1 (hy.gr g0).2.2.1 hx.lt hy.lt hb)
  rw [pl_iff] at hv
  clear hx hy
  generalize x.addr = xa at *
  generalize y.addr = ya at *
  generalize x.cnt = xc at *
  generalize y.cnt = yc at *
  by_cases h1 : xa = ya
  · by_cases h2 : xc = yc
    · subst h1 h2
      have hvb : v = b := by rw [Bool.eq_iff_iff, hv, hb]; simp
      subst hvb
      clear hv hb
      go_enter Try.func20, Try.ntmps20
      go_wp2_with fail
      with_reducible refine CS.out.mono ?_
      rintro e w1 ⟨rfl, h1⟩
      have G := Lib.hid (g0.trans h1)
      clear h1 g0
      go_wp2_with fail
      go_ret
      exact ⟨rfl, G.out⟩
    · have h2' : (xc == yc) = false := beq_eq_false_iff_ne.2 h2
      obtain rfl : v = false := by
        cases v
        · rfl
        · exact absurd (hv.1 rfl).2.1 h2
      subst h1
      clear hv hb h2 CS
      go_enter Try.func20, Try.ntmps20
      go_wp2_with fail
      go_ret
      exact ⟨rfl, g0⟩
  · have h1' : (xa == ya) = false := beq_eq_false_iff_ne.2 h1
    obtain rfl : v = false := by
      cases v
      · rfl
      · exact absurd (hv.1 rfl).1 h1
    clear hv hb h1 CS
    go_enter Try.func20, Try.ntmps20
    go_wp2_with fail
    go_ret
    exact ⟨rfl, g0⟩
variable {A B : Option Addr} {n m c d : Nat} {l r : List SV}
set_option maxHeartbeats 8000000 in
theorem rSame_is (hA : SMem w A n l) (hB : SMem w B m r) (hn : n ≤ 9223372036854775807) {v : Bool} (hv : v = true ↔ l.map SV.pl = r.map SV.pl) :
    Calls Try.prog 16 #[.slice A n c, .slice B m d] w fun e w' => e = .returned (.bool v) ∧ Gr w w' := by
  have hla := hA.1
  have hlb := hB.1
  have HV := Lib.hid hv
  have HA := Lib.hid hA
  have HB := Lib.hid hB
  clear hA hB hv
  by_cases hnm : n = m
  · subst hnm
    go_enter Try.func16, Try.ntmps16
    go_wp2_with fail
    go_loopw [13] (fun i wr => ∃ k : Nat, k ≤ n ∧ i = .int .i64 k ∧ Hid (∀ j, j < k → (l.map SV.pl)[j]? = (r.map SV.pl)[j]?) ∧ Hid (Gr w wr)) (fun i _ => n - (intOf i).toNat)
    case atStart => exact ⟨0, Nat.zero_le _, rfl, Lib.hid (fun j hj => absurd hj (by omega)), Lib.hid (Gr.refl _)⟩
    case round =>
      obtain ⟨k, hkn, rfl, HJ, HG⟩ := hrel
      by_cases hlt : k < n
      · obtain ⟨b, off, x, rfl, hbl, hx, hokx, d0, d1, d2⟩ := (HA.out.gr HG.out).at_ hlt
        obtain ⟨b', off', y, rfl, hbl', hy, hoky, f0, f1, f2⟩ := (HB.out.gr HG.out).at_ hlt
        have k0 : (0 : Int) ≤ (k : Int) := by omega
        have k1 : (k : Int) < (n : Int) := by omega
        obtain ⟨b1, hb1⟩ := yes_no (x.pl = y.pl)
        have CS : Hid (∀ W, Gr wr W → Calls Try.prog 20 #[.agg #[.int .i64 x.addr, .int .i64 x.cnt, .slice x.A x.n x.c], .agg #[.int .i64 y.addr, .int .i64 y.cnt, .slice y.A y.n y.c]] W fun e w' => e = .returned (.bool b1) ∧ Gr W w') := Lib.hid fun W g => rSpots_is (hokx.gr g) (hoky.gr g) hb1
        have HX := Lib.hid hx
        have HY := Lib.hid hy
        have HB1 := Lib.hid hb1
        clear hx hy hokx hoky hb1
        cases b1 with
        | true =>
          have HJ' : Hid (∀ j, j < k + 1 → (l.map SV.pl)[j]? = (r.map SV.pl)[j]?) := Lib.hid fun j hj => by
            by_cases h : j < k
            · exact HJ.out j h
            · obtain rfl : j = k := by omega
              rw [List.getElem?_map, List.getElem?_map, HX.out, HY.out]
              exact congrArg some (HB1.out.1 rfl)
          go_wp2_with fail
          go_region_held3 (fun W => W.cell? ⟨b, off + k * 3, none⟩ = some (.int .i64 x.addr) ∧ W.cell? ⟨b, off + k * 3 + 1, none⟩ = some (.int .i64 x.cnt) ∧ W.cell? ⟨b, off + k * 3 + 2, none⟩ = some (.slice x.A x.n x.c) ∧ W.cell? ⟨b', off' + k * 3, none⟩ = some (.int .i64 y.addr) ∧ W.cell? ⟨b', off' + k * 3 + 1, none⟩ = some (.int .i64 y.cnt) ∧ W.cell? ⟨b', off' + k * 3 + 2, none⟩ = some (.slice y.A y.n y.c) ∧ Gr wr W)
            (first | exact ⟨d0, d1, d2, f0, f1, f2, (Gr.refl wr).dr⟩ | assumption | (go_split_ands; exact ⟨(hb.cell (p := ⟨b, off + k * 3, none⟩) (Nat.lt_of_lt_of_le hbl (Below.size (by assumption)))).trans (by assumption), (hb.cell (p := ⟨b, off + k * 3 + 1, none⟩) (Nat.lt_of_lt_of_le hbl (Below.size (by assumption)))).trans (by assumption), (hb.cell (p := ⟨b, off + k * 3 + 2, none⟩) (Nat.lt_of_lt_of_le hbl (Below.size (by assumption)))).trans (by assumption), (hb.cell (p := ⟨b', off' + k * 3, none⟩) (Nat.lt_of_lt_of_le hbl' (Below.size (by assumption)))).trans (by assumption), (hb.cell (p := ⟨b', off' + k * 3 + 1, none⟩) (Nat.lt_of_lt_of_le hbl' (Below.size (by assumption)))).trans (by assumption), (hb.cell (p := ⟨b', off' + k * 3 + 2, none⟩) (Nat.lt_of_lt_of_le hbl' (Below.size (by assumption)))).trans (by assumption), Gr.trans (by assumption) hb⟩))
            (first | (go_at_call 20; (with_reducible refine (CS.out _ (by go_split_ands; assumption)).mono ?_); rintro ee w9 ⟨rfl, hb⟩))
          rename_i hH
          have G9 := Lib.hid (HG.out.trans hH.2.2.2.2.2.2)
          clear hH
          go_wp2_with fail
          go_roundw
          case rel => exact ⟨k + 1, by omega, by go_num, HJ', G9⟩
          case measure => simp [intOf]; omega
        | false =>
          obtain rfl : v = false := by
            cases v
            · rfl
            · have h1 := HV.out.1 rfl
              have h2 : (l.map SV.pl)[k]? = (r.map SV.pl)[k]? := by rw [h1]
              rw [List.getElem?_map, List.getElem?_map, HX.out, HY.out] at h2
              exact absurd (HB1.out.2 (Option.some.inj h2)) (by simp)
          go_wp2_with fail
          go_region_held3 (fun W => W.cell? ⟨b, off + k * 3, none⟩ = some (.int .i64 x.addr) ∧ W.cell? ⟨b, off + k * 3 + 1, none⟩ = some (.int .i64 x.cnt) ∧ W.cell? ⟨b, off + k * 3 + 2, none⟩ = some (.slice x.A x.n x.c) ∧ W.cell? ⟨b', off' + k * 3, none⟩ = some (.int .i64 y.addr) ∧ W.cell? ⟨b', off' + k * 3 + 1, none⟩ = some (.int .i64 y.cnt) ∧ W.cell? ⟨b', off' + k * 3 + 2, none⟩ = some (.slice y.A y.n y.c) ∧ Gr wr W)
            (first | exact ⟨d0, d1, d2, f0, f1, f2, (Gr.refl wr).dr⟩ | assumption | (go_split_ands; exact ⟨(hb.cell (p := ⟨b, off + k * 3, none⟩) (Nat.lt_of_lt_of_le hbl (Below.size (by assumption)))).trans (by assumption), (hb.cell (p := ⟨b, off + k * 3 + 1, none⟩) (Nat.lt_of_lt_of_le hbl (Below.size (by assumption)))).trans (by assumption), (hb.cell (p := ⟨b, off + k * 3 + 2, none⟩) (Nat.lt_of_lt_of_le hbl (Below.size (by assumption)))).trans (by assumption), (hb.cell (p := ⟨b', off' + k * 3, none⟩) (Nat.lt_of_lt_of_le hbl' (Below.size (by assumption)))).trans (by assumption), (hb.cell (p := ⟨b', off' + k * 3 + 1, none⟩) (Nat.lt_of_lt_of_le hbl' (Below.size (by assumption)))).trans (by assumption), (hb.cell (p := ⟨b', off' + k * 3 + 2, none⟩) (Nat.lt_of_lt_of_le hbl' (Below.size (by assumption)))).trans (by assumption), Gr.trans (by assumption) hb⟩))
            (first | (go_at_call 20; (with_reducible refine (CS.out _ (by go_split_ands; assumption)).mono ?_); rintro ee w9 ⟨rfl, hb⟩))
          rename_i hH
          have G9 := Lib.hid (HG.out.trans hH.2.2.2.2.2.2)
          clear hH
          go_wp2_with fail
          go_ret
          exact ⟨rfl, G9.out⟩
      · obtain rfl : k = n := by omega
        obtain rfl : v = true := HV.out.2 (List.ext_getElem? fun j => by
          by_cases h : j < k
          · exact HJ.out j h
          · rw [List.getElem?_eq_none (by rw [List.length_map]; omega), List.getElem?_eq_none (by rw [List.length_map]; omega)])
        clear HV
        go_wp2_with fail
        go_ret
        exact ⟨rfl, HG.out⟩
  · obtain rfl : v = false := by
      cases v
      · rfl
      · have := congrArg List.length (HV.out.1 rfl)
        simp [hla, hlb] at this
        exact absurd this hnm
    have hne : ((n : Int) == (m : Int)) = false := beq_eq_false_iff_ne.2 (by omega)
    have hne' : ((n : Int) != (m : Int)) = true := by simp [bne, hne]
    clear HV
    go_enter Try.func16, Try.ntmps16
    go_wp2_with fail
    go_ret
    exact ⟨rfl, Gr.refl _⟩
end
end Go.Proofs.Ytmkkeknimpjfoaa
