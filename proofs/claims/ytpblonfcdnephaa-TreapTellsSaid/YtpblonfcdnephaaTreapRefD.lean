/-
  The reference of package treap: Right.
-/
import Derived.Test.YtpblonfcdnephaaTreapRefC
namespace Go.Proofs.Ytpblonfcdnephaa
open Go.ChangeShapes Go.WideShapes Go.ChangeAt Go.RowKit
set_option linter.unusedVariables false
set_option linter.unusedSimpArgs false

section
variable {w : World} {r : Int} {A : Option Addr} {n c : Nat} {l : List Nd}
theorem no_good {v : Bool} (hv : v = true ↔ ∃ t, Good l r t) (h : ¬ ∃ t, Good l r t) : v = false := by
  cases v
  · rfl
  · exact absurd (hv.1 rfl) h
set_option maxRecDepth 100000 in
set_option maxHeartbeats 16000000 in
theorem rRight_is (hm : NMem w A n l) (hn : n ≤ 70) {v : Bool} (hv : v = true ↔ ∃ t, Good l r t) :
    Calls Try.prog 12 #[.agg #[.int .i64 r, .slice A n c]] w fun e w' => e = .returned (.bool v) ∧ Gr w w' := by
  have hlen := hm.1
  have HV := Lib.hid hv
  have HM := Lib.hid hm
  have g0 := (Gr.refl w).al (.cells #[.int .i64 r, .slice A n c] 24)
  have B0 := Lib.hid (Blk.new w #[.int .i64 r, .slice A n c] 24)
  clear hv hm
  go_enter Try.func12, Try.ntmps12
  go_wp2_with fail
  generalize hW1 : w.alloc (.cells #[.int .i64 r, .slice A n c] 24) = W1 at *
  clear hW1
  go_loopw [13] (fun i w3 => ∃ k : Nat, k ≤ n ∧ i = .int .i64 (k : Int) ∧ Hid (Gr W1 w3) ∧ Hid (∀ nd ∈ l.take k, IsKey nd.key)) (fun i _ => n - (intOf i).toNat)
  case atStart => exact ⟨0, Nat.zero_le _, rfl, Lib.hid (Gr.refl _), Lib.hid (by simp)⟩
  case round =>
    obtain ⟨k, hk, rfl, HR, HK⟩ := hrel
    by_cases hlt : k < n
    · obtain ⟨b, off, nd, rfl, hbl, hx, i0, i1, i2, d0, d1, d2⟩ := (HM.out.gr (g0.trans HR.out)).at_ hlt
      have hxm := List.mem_of_getElem? hx
      have htk : l.take (k + 1) = l.take k ++ [nd] := by rw [List.take_add_one, hx]; rfl
      by_cases hik : IsKey nd.key
      · have kC := Lib.hid (fun W => rKey_is nd.key (v := true) ⟨fun _ => hik, fun _ => rfl⟩ W)
        have HK2 := Lib.hid (show ∀ m ∈ l.take (k + 1), IsKey m.key from fun m hm => by
          rw [htk] at hm
          rcases List.mem_append.1 hm with h | h
          · exact HK.out m h
          · rw [List.mem_singleton] at h; subst h; exact hik)
        obtain ⟨x, y, z⟩ := nd
        dsimp only at *
        clear hx hxm htk hik i0 i1 i2
        go_wp2_with fail
        with_reducible refine (kC.out _).mono ?_
        rintro e w4 ⟨rfl, rfl⟩
        go_wp2_with fail
        go_roundw
        case rel => exact ⟨k + 1, by omega, by go_num, Lib.hid (HR.out.al _), HK2⟩
        case measure => simp [intOf]; omega
      · have kC := Lib.hid (fun W => rKey_is nd.key (v := false) ⟨fun h => (by cases h), fun h => absurd h hik⟩ W)
        have hvf : v = false := no_good HV.out (fun ⟨t, ht⟩ => hik (ht.isKey ((ht.keys _).1 (List.mem_map.2 ⟨nd, hxm, rfl⟩))))
        subst hvf
        obtain ⟨x, y, z⟩ := nd
        dsimp only at *
        clear hx hxm htk hik i0 i1 i2
        go_wp2_with fail
        with_reducible refine (kC.out _).mono ?_
        rintro e w4 ⟨rfl, rfl⟩
        go_wp2_with fail
        go_ret
        exact ⟨rfl, (g0.trans HR.out).al _⟩
    · obtain rfl : k = n := by omega
      have hkey : ∀ nd ∈ l, IsKey nd.key := fun nd h => HK.out nd (by rw [List.take_of_length_le (by omega)]; exact h)
      have HKy := Lib.hid hkey
      rename World => wo
      have HRo := Lib.hid (g0.trans HR.out)
      have f0 := ((B0.out.gr HR.out).at_ (k := 0) rfl).1
      have f1 := ((B0.out.gr HR.out).at_ (k := 1) rfl).1
      have HB := Lib.hid (B0.out.gr HR.out)
      obtain ⟨o, hw, hs, hf⟩ := wk_ex l k r
      have kW := Lib.hid (rWalk_is (r := r) (c := c) HM.out hw (by omega) _ HRo.out)
      have HS := Lib.hid hs
      have HF := Lib.hid hf
      clear hw hs hf hkey HK HR B0 g0
      cases o with
      | none =>
        have hvf : v = false := no_good HV.out (fun ⟨t, ht⟩ => by have := HF.out rfl t ht.1; have := ht.2.1; omega)
        subst hvf
        go_wp2_with fail
        with_reducible refine kW.out.mono ?_
        rintro e w4 ⟨rfl, hb4⟩
        have f2 := ((HB.out.gr hb4).at_ (k := 1) rfl).1
        go_wp2_with fail
        go_ret
        exact ⟨rfl, HRo.out.trans hb4⟩
      | some p =>
        obtain ⟨t, y⟩ := p
        obtain ⟨ht, hty⟩ := HS.out t y rfl
        have HT := Lib.hid ht
        clear HS HF ht
        by_cases hy0 : y = 0
        · subst hy0
          have hts : t.size = k := by omega
          have HTS := Lib.hid hts
          clear hty
          by_cases h64 : k ≤ 64
          · go_wp2_with fail
            with_reducible refine kW.out.mono ?_
            rintro e w4 ⟨C, kc, rfl, own, hb4⟩
            rw [hts] at own
            have hsl := HTS.out
            have HIL := Lib.hid (show t.inord.length = l.length from by rw [T.inord_len, hts, hlen])
            clear hts HTS
            generalize t.size = q at *
            subst hsl
            have f2 := ((HB.out.gr hb4).at_ (k := 1) rfl).1
            have KM := Lib.hid own.mem
            have HR4 := Lib.hid (HRo.out.trans hb4)
            have HB4 := Lib.hid (HB.out.gr hb4)
            clear own hb4 f0 f1 kW
            go_wp2_with fail
            go_loopw [42] (fun i w5 => ∃ j : Nat, j ≤ q ∧ i = .int .i64 (j : Int) ∧ Hid (Gr w4 w5) ∧ Hid (Rising (t.inord.take j))) (fun i _ => q - (intOf i).toNat)
            case atStart => exact ⟨0, Nat.zero_le _, rfl, Lib.hid (Gr.refl _), Lib.hid (by simp [Rising])⟩
            case round =>
              obtain ⟨j, hj, rfl, HR5, HRi⟩ := hrel
              by_cases hjq : j < q
              · obtain ⟨b, off, x, rfl, hbl, hx, hix, cx⟩ := (KM.out.gr HR5.out).at_ hjq
                by_cases hj0 : j = 0
                · have hd0 : decide ((0 : Int) < (j : Int)) = false := decide_eq_false (by omega)
                  have hd1 : ¬ (0 : Int) < (j : Int) := by omega
                  have HN := Lib.hid (ris_more HRi.out hx (.inl hj0))
                  subst hj0
                  clear hx hbl
                  go_wp2_with fail
                  go_quiet (fail)
                  go_wp2_with fail
                  go_roundw
                  case rel => exact ⟨1, by omega, by go_num, Lib.hid (HR5.out.drN _), HN⟩
                  case measure => simp [intOf]; omega
                · obtain ⟨b', off', z, eb, hbl', hz, hiz, cz⟩ := (KM.out.gr HR5.out).at_ (show j - 1 < q from by omega)
                  cases eb
                  obtain ⟨p, hp⟩ : ∃ p, j - 1 = p := ⟨_, rfl⟩
                  have e1 : IntKind.i64.wrap ((j : Int) - 1) = (p : Int) := by rw [wrap_id (by omega) (by omega)]; omega
                  have e2 : (0 : Int) < (j : Int) := by omega
                  have e2n : 0 < j := by omega
                  have e3 : (0 : Int) ≤ (p : Int) := by omega
                  have e4 : (p : Int) < (q : Int) := by omega
                  have e5 : (0 : Int) ≤ (j : Int) := by omega
                  have e6 : (j : Int) < (q : Int) := by omega
                  by_cases hzx : z < x
                  · have HN := Lib.hid (ris_more HRi.out hx (.inr ⟨z, hz, hzx⟩))
                    have e7 : ¬ x ≤ z := by omega
                    rw [hp] at cz
                    clear hx hz hbl hbl' hp hzx
                    go_wp2_with fail
                    go_quiet (fail)
                    go_wp2_with fail
                    go_roundw
                    case rel => exact ⟨j + 1, by omega, by go_num, Lib.hid (HR5.out.drN _), HN⟩
                    case measure => simp [intOf]; omega
                  · have hvf : v = false := no_good HV.out (fun ⟨u, hu⟩ => hzx (by
                      have hr := hu.2.2.2.1.rising
                      rw [hu.1.det HT.out] at hr
                      exact ris_lt hr hz hx (by omega)))
                    subst hvf
                    have e7 : x ≤ z := by omega
                    rw [hp] at cz
                    clear hx hz hbl hbl' hp hzx
                    go_wp2_with fail
                    go_quiet (fail)
                    go_wp2_with fail
                    go_ret
                    exact ⟨rfl, (HR4.out.trans HR5.out).drN _⟩
              · obtain rfl : j = q := by omega
                have hri : Rising t.inord := by
                  have h := HRi.out
                  rw [List.take_of_length_le (by rw [HIL.out, hlen]; exact Nat.le_refl _)] at h
                  exact h
                obtain ⟨hall, hiff⟩ := good_iff HKy.out HT.out (by rw [← T.inord_len]; exact HIL.out) (by omega) hri
                have HAll := Lib.hid hall
                have HIff := Lib.hid hiff
                rename World => wp
                have HRp := Lib.hid (HR4.out.trans HR5.out)
                have HBp := Lib.hid (HB4.out.gr HR5.out)
                have f0 := (HBp.out.at_ (k := 0) rfl).1
                have f1 := (HBp.out.at_ (k := 1) rfl).1
                clear hall hiff hri HRi HR5 HR4 HB4 f2 KM
                go_wp2_with fail
                go_loopw [63] (fun i w6 => ∃ k : Nat, k ≤ j ∧ i = .int .i64 (k : Int) ∧ Hid (Gr wp w6) ∧ Hid (∀ nd ∈ l.take k, LtI l nd.left nd.key ∧ LtI l nd.right nd.key)) (fun i _ => j - (intOf i).toNat)
                case atStart => exact ⟨0, Nat.zero_le _, rfl, Lib.hid (Gr.refl _), Lib.hid (by simp)⟩
                case round =>
                  clear f0 f1
                  obtain ⟨k, hk, rfl, HR6, HL⟩ := hrel
                  by_cases hkj : k < j
                  · obtain ⟨b, off, nd, rfl, hbl, hx, i0, i1, i2, d0, d1, d2⟩ := (HM.out.gr (HRp.out.trans HR6.out)).at_ hkj
                    have hxm := List.mem_of_getElem? hx
                    have htk : l.take (k + 1) = l.take k ++ [nd] := by rw [List.take_add_one, hx]; rfl
                    have hnk := HKy.out nd hxm
                    obtain ⟨nd', L', R', e', hL', hR'⟩ := HT.out.kids k (HAll.out k (by omega))
                    rw [hx] at e'
                    cases e'
                    have side : ∀ {t' : T} {a : Int}, Lay l t' a → a = -1 ∨ ∃ (j : Nat) (nd : Nd), a = (j : Int) ∧ l[j]? = some nd := fun {t'} {a} h => by
                      cases t' with
                      | nil => exact .inl h
                      | node j' k' _ _ => obtain ⟨h1, m, h2, _⟩ := h; exact .inr ⟨j', m, h1, h2⟩
                    have f0 := ((HBp.out.gr HR6.out).at_ (k := 0) rfl).1
                    have f1 := ((HBp.out.gr HR6.out).at_ (k := 1) rfl).1
                    have hlt6 := (HBp.out.gr HR6.out).lt
                    have gN := HR6.out.al (.cells #[.int .i64 nd.key, .int .i64 nd.left, .int .i64 nd.right] 53)
                    have HMN := Lib.hid (HM.out.gr (HRp.out.trans gN))
                    rename World => w6
                    have BNd := Blk.new w6 #[.int .i64 nd.key, .int .i64 nd.left, .int .i64 nd.right] 53
                    have HGN := Lib.hid gN
                    by_cases hLL : LtI l nd.left nd.key
                    · have kL := Lib.hid (rLighter_is (r := r) (c := c) HMN.out HKy.out (side hL') hnk (v := true) ⟨fun _ => hLL, fun _ => rfl⟩)
                      by_cases hRR : LtI l nd.right nd.key
                      · have kR := Lib.hid (fun W g => rLighter_is (r := r) (c := c) (HMN.out.gr (w' := W) g) HKy.out (side hR') hnk (v := true) ⟨fun _ => hRR, fun _ => rfl⟩)
                        have HL2 := Lib.hid (show ∀ m ∈ l.take (k + 1), LtI l m.left m.key ∧ LtI l m.right m.key from fun m hm => by
                          rw [htk] at hm
                          rcases List.mem_append.1 hm with h | h
                          · exact HL.out m h
                          · rw [List.mem_singleton] at h; subst h; exact ⟨hLL, hRR⟩)
                        obtain ⟨x, y, z⟩ := nd
                        dsimp only at *
                        clear hx hxm htk hnk hL' hR' side i0 i1 i2 hLL hRR gN
                        go_wp2_with fail
                        with_reducible refine kL.out.mono ?_
                        rintro e w7 ⟨rfl, hb7⟩
                        have f2 := ((HBp.out.gr (HGN.out.trans hb7)).at_ (k := 0) rfl).1
                        have f3 := ((HBp.out.gr (HGN.out.trans hb7)).at_ (k := 1) rfl).1
                        have f4 := ((BNd.gr hb7).at_ (k := 0) rfl).1
                        have f5 := ((BNd.gr hb7).at_ (k := 2) rfl).1
                        clear f0 f1 d0 d1 d2
                        go_wp2_with fail
                        with_reducible refine (kR.out _ hb7).mono ?_
                        rintro e w8 ⟨rfl, hb8⟩
                        have HG8 := Lib.hid ((HGN.out.trans hb7).trans hb8)
                        clear f2 f3 f4 f5 hb7 hb8
                        go_wp2_with fail
                        go_roundw
                        case rel => exact ⟨k + 1, by omega, by go_num, HG8, HL2⟩
                        case measure => simp [intOf]; omega
                      · have kR := Lib.hid (fun W g => rLighter_is (r := r) (c := c) (HMN.out.gr (w' := W) g) HKy.out (side hR') hnk (v := false) ⟨fun h => (by cases h), fun h => absurd h hRR⟩)
                        have hvf : v = false := no_good HV.out (fun hu => hRR (HIff.out.2 hu nd hxm).2)
                        subst hvf
                        obtain ⟨x, y, z⟩ := nd
                        dsimp only at *
                        clear hx hxm htk hnk hL' hR' side i0 i1 i2 hLL hRR gN
                        go_wp2_with fail
                        with_reducible refine kL.out.mono ?_
                        rintro e w7 ⟨rfl, hb7⟩
                        have f2 := ((HBp.out.gr (HGN.out.trans hb7)).at_ (k := 0) rfl).1
                        have f3 := ((HBp.out.gr (HGN.out.trans hb7)).at_ (k := 1) rfl).1
                        have f4 := ((BNd.gr hb7).at_ (k := 0) rfl).1
                        have f5 := ((BNd.gr hb7).at_ (k := 2) rfl).1
                        clear f0 f1 d0 d1 d2
                        go_wp2_with fail
                        with_reducible refine (kR.out _ hb7).mono ?_
                        rintro e w8 ⟨rfl, hb8⟩
                        have HG8 := Lib.hid (HRp.out.trans ((HGN.out.trans hb7).trans hb8))
                        clear f2 f3 f4 f5 hb7 hb8
                        go_wp2_with fail
                        go_ret
                        exact ⟨rfl, HG8.out⟩
                    · have kL := Lib.hid (rLighter_is (r := r) (c := c) HMN.out HKy.out (side hL') hnk (v := false) ⟨fun h => (by cases h), fun h => absurd h hLL⟩)
                      have hvf : v = false := no_good HV.out (fun hu => hLL (HIff.out.2 hu nd hxm).1)
                      subst hvf
                      obtain ⟨x, y, z⟩ := nd
                      dsimp only at *
                      clear hx hxm htk hnk hL' hR' side i0 i1 i2 hLL gN
                      go_wp2_with fail
                      with_reducible refine kL.out.mono ?_
                      rintro e w7 ⟨rfl, hb7⟩
                      have HG8 := Lib.hid (HRp.out.trans (HGN.out.trans hb7))
                      clear f0 f1 d0 d1 d2 hb7
                      go_wp2_with fail
                      go_ret
                      exact ⟨rfl, HG8.out⟩
                  · obtain rfl : k = j := by omega
                    have hvt : v = true := HV.out.2 (HIff.out.1 (fun nd h => HL.out nd (by rw [List.take_of_length_le (by omega)]; exact h)))
                    subst hvt
                    go_wp2_with fail
                    go_ret
                    exact ⟨rfl, HRp.out.trans HR6.out⟩
          · have hvf : v = false := no_good HV.out (fun ⟨u, hu⟩ => by have := hu.2.2.1; omega)
            subst hvf
            go_wp2_with fail
            with_reducible refine kW.out.mono ?_
            rintro e w4 ⟨C, kc, rfl, own, hb4⟩
            have f2 := ((HB.out.gr hb4).at_ (k := 1) rfl).1
            clear own
            go_wp2_with fail
            go_ret
            exact ⟨rfl, HRo.out.trans hb4⟩
        · have hvf : v = false := no_good HV.out (fun ⟨u, hu⟩ => by
            have := hu.2.1
            rw [hu.1.det HT.out] at this
            omega)
          subst hvf
          have hy1 : ((y : Int) == 0) = false := beq_eq_false_iff_ne.2 (by omega)
          go_wp2_with fail
          with_reducible refine kW.out.mono ?_
          rintro e w4 ⟨C, kc, rfl, own, hb4⟩
          clear own
          go_wp2_with fail
          go_ret
          exact ⟨rfl, HRo.out.trans hb4⟩
end
end Go.Proofs.Ytpblonfcdnephaa
