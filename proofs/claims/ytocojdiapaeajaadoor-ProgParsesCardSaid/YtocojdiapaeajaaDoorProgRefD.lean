/-
  deadboltref12: an act.
-/
import Derived.Test.YtocojdiapaeajaaDoorProgRefC
import Derived.Test.YtocojdiapaeajaaDoorProgPrint
namespace Go.Proofs.YtocojdiapaeajaaDoor
open Go.ChangeShapes Go.WideShapes Go.ChangeAt Go.RowKit
set_option linter.unusedVariables false
set_option linter.unusedSimpArgs false
set_option maxRecDepth 100000
namespace P12

theorem word_short {s : Bs} {k : Int} (h : s.length ≤ (wd k).length + 1) : ¬ ∃ d, WordR s k d := by
  rintro ⟨d, _, _, hd, rfl⟩
  have : 0 < d.length := List.length_pos_iff.2 hd
  rw [List.length_append, List.length_cons] at h
  omega
theorem word_yes {s : Bs} {k : Int} (hk : 0 ≤ k ∧ k ≤ 3) (h : (wd k).length + 1 < s.length) (e : s.take ((wd k).length + 1) = wd k ++ [32]) : WordR s k (s.drop ((wd k).length + 1)) := by
  refine ⟨hk.1, hk.2, fun h0 => ?_, ?_⟩
  · have := congrArg List.length h0
    rw [List.length_drop] at this
    simp at this
    omega
  · conv => lhs; rw [← List.take_append_drop ((wd k).length + 1) s, e]
    simp
theorem word_no {s : Bs} {k : Int} (e : s.take ((wd k).length + 1) ≠ wd k ++ [32]) : ¬ ∃ d, WordR s k d := by
  rintro ⟨d, _, _, hd, rfl⟩
  apply e
  rw [List.take_append, List.take_of_length_le (by omega), show (wd k).length + 1 - (wd k).length = 1 by omega]
  rfl
/-- None of the first words. -/
def NoneYet (s : Bs) (k : Nat) : Prop := ∀ j : Nat, j < k → ¬ ∃ d, WordR s (j : Int) d
theorem NoneYet.next {s : Bs} {k : Nat} (h : NoneYet s k) (g : ¬ ∃ d, WordR s (k : Int) d) : NoneYet s (k + 1) := fun j hj => by
  by_cases e : j = k
  · subst e; exact g
  · exact h j (by omega)
theorem NoneYet.all {s : Bs} (h : NoneYet s 4) : ¬ ∃ k d, WordR s k d := by
  rintro ⟨k, d, hw⟩
  have h0 := hw.1
  have h1 := hw.2.1
  refine h k.toNat (by omega) ⟨d, ?_⟩
  rw [Int.toNat_of_nonneg h0]
  exact hw

set_option maxHeartbeats 8000000 in
theorem ract_is {s : Bs} {e0 : Int} {a : Ac} (h : actP s = (e0, a)) (hs : s.length ≤ 1000000) (w : World) :
    Calls Tryd.prog 40 #[.string (bs s)] w fun e w' => e = .returned (.tuple #[.agg #[.int .i64 a.1, .int .i64 a.2], .int .i64 e0]) ∧ Gr w w' := by
  have HA := Lib.hid h
  clear h
  have cw := fun W => Lib.hid (show Calls Tryd.prog 32 #[] W fun e w' => (∃ g, e = .returned (.slice (some ⟨g, 0, none⟩) 4 4) ∧ g < w'.heap.size ∧ W.heap.size ≤ g ∧ Blk w' g #[.string (bs (wd 0)), .string (bs (wd 1)), .string (bs (wd 2)), .string (bs (wd 3))] 9) ∧ Gr W w' from
    (rwords_is W).mono fun e w' ⟨h1, h2⟩ => ⟨⟨W.heap.size, h1, by rw [h2, World.size_alloc]; omega, Nat.le_refl _, by rw [h2]; exact Blk.new W _ _⟩, by rw [h2]; exact (Gr.refl W).al _⟩)
  have hsz := bs_size s
  obtain ⟨SS, hSS⟩ : ∃ SS, bs s = SS := ⟨_, rfl⟩
  rw [hSS] at hsz ⊢
  have HSS := Lib.hid hSS
  clear hSS
  have HR0 := Lib.hid (Blk.new w #[.int .i64 0, .int .i64 0] 38)
  have HG0 := Lib.hid ((Gr.refl w).al (.cells #[.int .i64 0, .int .i64 0] 38))
  obtain ⟨rb, hrb⟩ : ∃ rb, w.heap.size = rb := ⟨_, rfl⟩
  have HRB := Lib.hid hrb
  rw [hrb] at HR0
  go_enter Tryd.func40, Tryd.ntmps40
  go_wp2_with fail
  clear hrb
  with_reducible refine (cw _).out.mono ?_
  rintro e w1 ⟨⟨g, rfl, hgl, hgg, hgb⟩, hb1⟩
  have HR1 := Lib.hid (HR0.out.gr hb1)
  have HG1 := Lib.hid (HG0.out.trans hb1)
  have HW := Lib.hid hgb
  have hrg : rb < g := by have := HR0.out.lt; omega
  clear HR0 HG0 cw hb1 hgb hgg
  have H0 := Lib.hid (show NoneYet s 0 from fun j hj => absurd hj (by omega))
  go_wp2_with fail
  go_loopw [11] (fun i wr => ∃ (k : Nat), k ≤ 4 ∧ i = .int .i64 (k : Int) ∧ Hid (NoneYet s k) ∧ wr = w1) (fun i _ => 4 - (intOf i).toNat)
  case atStart => exact ⟨0, by omega, rfl, H0, rfl⟩
  case round =>
    obtain ⟨k, hk, rfl, HN, rfl⟩ := hrel
    by_cases hlt : k < 4
    · obtain ⟨S1, hS1⟩ : ∃ S, bs (wd (k : Int)) = S := ⟨_, rfl⟩
      have wc : wr.cell? ⟨g, k, none⟩ = some (.string S1) := by
        rw [← hS1]
        have e : k = 0 ∨ k = 1 ∨ k = 2 ∨ k = 3 := by omega
        rcases e with rfl | rfl | rfl | rfl
        · exact (HW.out.at_ (k := 0) rfl).1
        · exact (HW.out.at_ (k := 1) rfl).1
        · exact (HW.out.at_ (k := 2) rfl).1
        · exact (HW.out.at_ (k := 3) rfl).1
      have l1 := bs_size (wd (k : Int))
      rw [hS1] at l1
      have l6 := wd_len (k : Int)
      obtain ⟨q, hq⟩ : ∃ q, (wd (k : Int)).length + 1 = q := ⟨_, rfl⟩
      have hw : IntKind.i64.wrap ((S1.size : Int) + 1) = (q : Int) := by rw [IntKind.wrap_i64]; omega
      have k0 : (0 : Int) ≤ (k : Int) := by omega
      have k1 : (k : Int) < 4 := by omega
      have hk3 : (0 : Int) ≤ (k : Int) ∧ (k : Int) ≤ 3 := by omega
      have q0 : (0 : Int) ≤ (q : Int) := by omega
      by_cases hl : s.length ≤ q
      · have HN2 := Lib.hid (HN.out.next (word_short (by rw [hq]; exact hl)))
        have t1 : (SS.size : Int) ≤ (q : Int) := by omega
        clear hS1 l1 l6 hq hsz hk3 hl
        go_wp2_with fail
        go_roundw
        case rel => exact ⟨k + 1, by omega, by go_num, HN2, trivial⟩
        case measure => simp [intOf]; omega
      · have t1 : ¬ (SS.size : Int) ≤ (q : Int) := by omega
        have t2 : (q : Int) ≤ (SS.size : Int) := by omega
        have hex : SS.extract 0 q = bs (s.take q) := by rw [← HSS.out, bs_cut]; rfl
        have hcat : S1 ++ ⟨#[32]⟩ = bs (wd (k : Int) ++ [32]) := by rw [← hS1, ← bs_append]; rfl
        have zc : ¬ 9223372036854775807 < S1.size + 1 := by omega
        by_cases hm : s.take q = wd (k : Int) ++ [32]
        · have hcmp : ((bs (s.take q)).toList == (bs (wd (k : Int) ++ [32])).toList) = true := by rw [bs_eq]; exact decide_eq_true hm
          have HWR := Lib.hid (word_yes (s := s) hk3 (by omega) (by rw [hq]; exact hm))
          rw [hq] at HWR
          obtain ⟨d, hd⟩ : ∃ d, s.drop q = d := ⟨_, rfl⟩
          have hex2 : SS.extract q SS.size = bs d := by
            rw [← hd, ← HSS.out, bs_cut, bs_size, List.take_of_length_le (by rw [List.length_drop]; omega)]
          rw [hd] at HWR
          have hdl : d.length ≤ 1000000 := by rw [← hd, List.length_drop]; omega
          have cn := fun W => Lib.hid (rnumber_is (s := d) (by omega) W)
          have q2 : (q : Int) ≤ (SS.size : Int) := t2
          obtain ⟨y0, f0⟩ := HR1.out.at_ (k := 0) rfl
          clear hS1 l1 l6 hq hsz hl hm hd hdl y0 f0
          generalize bs (s.take q) = X1 at *
          generalize bs (wd (k : Int) ++ [32]) = X2 at *
          go_wp2_with fail
          with_reducible refine (cn _).out.mono ?_
          rintro e X3 ⟨⟨v, b, rfl, hby, hbn⟩, hx3⟩
          have HR3 := Lib.hid (HR1.out.gr hx3)
          have HG3 := Lib.hid (HG1.out.trans hx3)
          have hrb3 := HR3.out.lt
          clear hx3 cn HR1 HG1
          cases b
          · have h8 := actP_char HWR.out (hbn rfl)
            rw [HA.out] at h8
            cases h8
            clear hby hbn
            obtain ⟨y0, f0⟩ := HR3.out.at_ (k := 0) rfl
            obtain ⟨y1, f1⟩ := HR3.out.at_ (k := 1) rfl
            obtain ⟨z1, f2⟩ := (HR3.out.set 0 (.int .i64 0)).at_ (k := 1) rfl
            have B2 := (HR3.out.set 0 (.int .i64 0)).set 1 (.int .i64 0)
            obtain ⟨q0, -⟩ := B2.at_ (k := 0) rfl
            obtain ⟨q1, -⟩ := B2.at_ (k := 1) rfl
            have GF := Lib.hid ((HG3.out.st (p := ⟨rb, 0, none⟩) (by show w.heap.size ≤ rb; rw [HRB.out]; exact Nat.le_refl _) (.int .i64 0)).st (p := ⟨rb, 1, none⟩) (by show w.heap.size ≤ rb; rw [HRB.out]; exact Nat.le_refl _) (.int .i64 0))
            clear B2 HG3
            go_wp2_with fail
            exact bodyPost_ret (v := .tuple #[.agg #[.int .i64 0, .int .i64 0], .int .i64 9]) (by simp [results, Tryd.results40, go_sem, q0, q1]) rfl ⟨rfl, GF.out⟩
          · have hn := hby rfl
            have h8 := actP_num HWR.out hn
            rw [HA.out] at h8
            clear hby hbn
            obtain ⟨B, hB⟩ : ∃ B, okA ((k : Int), v) = B := ⟨_, rfl⟩
            rw [hB] at h8
            have cA := fun W => Lib.hid (rAct_is (a := ((k : Int), v)) hB W)
            dsimp only at cA
            clear hn hB
            go_wp2_with fail
            with_reducible refine (cA _).out.mono ?_
            rintro e X4 ⟨rfl, hx4⟩
            have gX := (Gr.refl X3).al (.cells #[.int .i64 (k : Int), .int .i64 v] 38)
            have HV4 := Lib.hid ((Blk.new X3 #[.int .i64 (k : Int), .int .i64 v] 38).gr hx4)
            have HR4 := Lib.hid ((HR3.out.gr gX).gr hx4)
            have HG4 := Lib.hid ((HG3.out.trans gX).trans hx4)
            clear hx4 cA gX HR3 HG3
            obtain ⟨y0, f0⟩ := HR4.out.at_ (k := 0) rfl
            obtain ⟨y1, f1⟩ := HR4.out.at_ (k := 1) rfl
            cases B
            · cases h8
              obtain ⟨z1, f2⟩ := (HR4.out.set 0 (.int .i64 0)).at_ (k := 1) rfl
              have B2 := (HR4.out.set 0 (.int .i64 0)).set 1 (.int .i64 0)
              obtain ⟨q0, -⟩ := B2.at_ (k := 0) rfl
              obtain ⟨q1, -⟩ := B2.at_ (k := 1) rfl
              have GF := Lib.hid ((HG4.out.st (p := ⟨rb, 0, none⟩) (by show w.heap.size ≤ rb; rw [HRB.out]; exact Nat.le_refl _) (.int .i64 0)).st (p := ⟨rb, 1, none⟩) (by show w.heap.size ≤ rb; rw [HRB.out]; exact Nat.le_refl _) (.int .i64 0))
              clear B2 HG4
              go_wp2_with fail
              exact bodyPost_ret (v := .tuple #[.agg #[.int .i64 0, .int .i64 0], .int .i64 3]) (by simp [results, Tryd.results40, go_sem, q0, q1]) rfl ⟨rfl, GF.out⟩
            · cases h8
              obtain ⟨v0, -⟩ := HV4.out.at_ (k := 0) rfl
              obtain ⟨v1, -⟩ := HV4.out.at_ (k := 1) rfl
              obtain ⟨z1, f2⟩ := (HR4.out.set 0 (.int .i64 (k : Int))).at_ (k := 1) rfl
              have B2 := (HR4.out.set 0 (.int .i64 (k : Int))).set 1 (.int .i64 v)
              obtain ⟨q0, -⟩ := B2.at_ (k := 0) rfl
              obtain ⟨q1, -⟩ := B2.at_ (k := 1) rfl
              have GF := Lib.hid ((HG4.out.st (p := ⟨rb, 0, none⟩) (by show w.heap.size ≤ rb; rw [HRB.out]; exact Nat.le_refl _) (.int .i64 (k : Int))).st (p := ⟨rb, 1, none⟩) (by show w.heap.size ≤ rb; rw [HRB.out]; exact Nat.le_refl _) (.int .i64 v))
              clear B2 HG4
              go_wp2_with fail
              exact bodyPost_ret (v := .tuple #[.agg #[.int .i64 (k : Int), .int .i64 v], .int .i64 0]) (by simp [results, Tryd.results40, go_sem, q0, q1]) rfl ⟨rfl, GF.out⟩
        · have hcmp : ((bs (s.take q)).toList == (bs (wd (k : Int) ++ [32])).toList) = false := by rw [bs_eq]; exact decide_eq_false hm
          have HN2 := Lib.hid (HN.out.next (word_no (by rw [hq]; exact hm)))
          clear hS1 l1 l6 hq hsz hk3 hl hm
          generalize bs (s.take q) = X1 at *
          generalize bs (wd (k : Int) ++ [32]) = X2 at *
          go_wp2_with fail
          go_roundw
          case rel => exact ⟨k + 1, by omega, by go_num, HN2, trivial⟩
          case measure => simp [intOf]; omega
    · obtain rfl : k = 4 := by omega
      have h8 := actP_word HN.out.all
      rw [HA.out] at h8
      cases h8
      obtain ⟨y0, f0⟩ := HR1.out.at_ (k := 0) rfl
      obtain ⟨y1, f1⟩ := HR1.out.at_ (k := 1) rfl
      obtain ⟨z1, f2⟩ := (HR1.out.set 0 (.int .i64 0)).at_ (k := 1) rfl
      have B2 := (HR1.out.set 0 (.int .i64 0)).set 1 (.int .i64 0)
      obtain ⟨q0, -⟩ := B2.at_ (k := 0) rfl
      obtain ⟨q1, -⟩ := B2.at_ (k := 1) rfl
      have GF := Lib.hid ((HG1.out.st (p := ⟨rb, 0, none⟩) (by show w.heap.size ≤ rb; rw [HRB.out]; exact Nat.le_refl _) (.int .i64 0)).st (p := ⟨rb, 1, none⟩) (by show w.heap.size ≤ rb; rw [HRB.out]; exact Nat.le_refl _) (.int .i64 0))
      clear B2 HG1
      go_wp2_with fail
      exact bodyPost_ret (v := .tuple #[.agg #[.int .i64 0, .int .i64 0], .int .i64 8]) (by simp [results, Tryd.results40, go_sem, q0, q1]) rfl ⟨rfl, GF.out⟩
end P12
end Go.Proofs.YtocojdiapaeajaaDoor
