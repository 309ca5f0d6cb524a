/-
  The law RootTells: for every slice of spots, any spot and any two numbers, the law's function returns true, and its arguments read behind the call as they read before. No condition.
-/
import Derived.Test.YtdioecicakpfdaaRootFew
import Derived.Test.YtdioecicakpfdaaRootPl
import Derived.Test.YtdioecicakpfdaaEnds
import Derived.Deep.RegionWith
import Derived.Deep.DeepCutAuto
namespace Go.Proofs.Ytdioecicakpfdaa
open Go.ChangeShapes Go.WideShapes Go.ChangeAt Go.RowKit
set_option linter.unusedVariables false
set_option linter.unusedSimpArgs false

set_option maxRecDepth 100000 in
set_option maxHeartbeats 8000000 in
theorem RootTells_walk (w : World) (A0 : Option Addr) (n0 c0 : Nat) (L0 : List SV) (hc : n0 ≤ c0) (hn : n0 ≤ 9223372036854775807) (hm0 : SMem w A0 n0 L0) (a0 : SV) (ha0 : a0.ok w) (addr : Int) (hadr : B64 addr) (z : Int) (hz : B64 z) :
    Calls Try.prog 3 #[.slice A0 n0 c0, .agg #[.int .i64 a0.addr, .int .i64 a0.cnt, .slice a0.A a0.n a0.c], .int .i64 addr, .int .i64 z] w fun e w' => e = .returned (.bool true) ∧ Gr w w' := by
  have CA := Lib.hid (cut_is ha0)
  have CF := Lib.hid (fun W (g : Gr w W) => few_row (c := c0) hm0 g hc hn)
  have haok := Lib.hid (cutS.ok ha0)
  have hLok := Lib.hid (fewL_ok hm0)
  have hl70 := fewL_len L0
  obtain ⟨X, hX⟩ : ∃ X, w.alloc (.cells #[.int .i64 a0.addr, .int .i64 a0.cnt, .slice a0.A a0.n a0.c] 25) = X := ⟨_, rfl⟩
  have gX : Gr w X := by rw [← hX]; exact (Gr.refl w).al _
  have BA : Blk X w.heap.size #[.int .i64 a0.addr, .int .i64 a0.cnt, .slice a0.A a0.n a0.c] 25 := by rw [← hX]; exact Blk.new w _ _
  obtain ⟨L, hL⟩ : ∃ L, fewL L0 = L := ⟨_, rfl⟩
  rw [hL] at CF hLok hl70
  obtain ⟨a, hae⟩ : ∃ a, cutS a0 = a := ⟨_, rfl⟩
  rw [hae] at CA haok
  clear hL hae ha0 hm0 hc hn
  obtain ⟨N, hN⟩ : ∃ N, L.length = N := ⟨_, rfl⟩
  rw [hN] at CF hl70
  have HN := Lib.hid hN
  have HAD := Lib.hid hadr
  clear hN hadr hz
  have K6 : Hid (∀ W, Gr X W → (W.cell? ⟨w.heap.size, 0, none⟩ = some (.int .i64 a0.addr) ∧ W.cell? ⟨w.heap.size, 1, none⟩ = some (.int .i64 a0.cnt) ∧ W.cell? ⟨w.heap.size, 2, none⟩ = some (.slice a0.A a0.n a0.c)) ∧
      (W.frozen? ⟨w.heap.size, 0, none⟩ = false ∧ W.frozen? ⟨w.heap.size, 1, none⟩ = false ∧ W.frozen? ⟨w.heap.size, 2, none⟩ = false) ∧ w.heap.size < W.heap.size) := Lib.hid fun W g =>
    ⟨⟨((BA.gr g).at_ (k := 0) rfl).1, ((BA.gr g).at_ (k := 1) rfl).1, ((BA.gr g).at_ (k := 2) rfl).1⟩, ⟨((BA.gr g).at_ (k := 0) rfl).2, ((BA.gr g).at_ (k := 1) rfl).2, ((BA.gr g).at_ (k := 2) rfl).2⟩, (BA.gr g).lt⟩
  have FIN : Hid (∀ (B : Option Addr) (m : Nat) (W : World), SRow W X.drew.heap.size (.slice B N m) N L → Gr X W →
      SMem (((W.setCell ⟨w.heap.size, 0, none⟩ (.int .i64 a.addr)).setCell ⟨w.heap.size, 1, none⟩ (.int .i64 a.cnt)).setCell ⟨w.heap.size, 2, none⟩ (.slice a.A a.n a.c)) B N L ∧ N ≤ m ∧ m ≤ 9223372036854775807 ∧
      Gr w (((W.setCell ⟨w.heap.size, 0, none⟩ (.int .i64 a.addr)).setCell ⟨w.heap.size, 1, none⟩ (.int .i64 a.cnt)).setCell ⟨w.heap.size, 2, none⟩ (.slice a.A a.n a.c)) ∧
      Blk (((W.setCell ⟨w.heap.size, 0, none⟩ (.int .i64 a.addr)).setCell ⟨w.heap.size, 1, none⟩ (.int .i64 a.cnt)).setCell ⟨w.heap.size, 2, none⟩ (.slice a.A a.n a.c)) w.heap.size #[.int .i64 a.addr, .int .i64 a.cnt, .slice a.A a.n a.c] 25) := Lib.hid fun B m W hr hg => by
    have p0 : w.heap.size < X.drew.heap.size := BA.lt
    have r6 := srow_cell (srow_cell (srow_cell hr p0 (o := 0) (.int .i64 a.addr)) p0 (o := 1) (.int .i64 a.cnt)) p0 (o := 2) (.slice a.A a.n a.c)
    have g6 := (((gX.trans hg).st (p := ⟨w.heap.size, 0, none⟩) (Nat.le_refl _) (.int .i64 a.addr)).st (p := ⟨w.heap.size, 1, none⟩) (Nat.le_refl _) (.int .i64 a.cnt)).st (p := ⟨w.heap.size, 2, none⟩) (Nat.le_refl _) (.slice a.A a.n a.c)
    obtain ⟨B', m', e, h1, h2, h3⟩ := own_smem r6 (fun y hy => (hLok.out y hy).gr g6)
    cases e
    exact ⟨h1, h2, h3, g6, spot_stored (BA.gr hg) rfl (.int .i64 a.addr) (.int .i64 a.cnt) (.slice a.A a.n a.c)⟩
  have HGX := Lib.hid gX
  clear BA gX
  go_enter Try.func3, Try.ntmps3
  go_upto_region 1 with fail
  go_cut [0] (fun t wx => ∃ B m, t = .slice B N m ∧ SMem wx B N L ∧ N ≤ m ∧ m ≤ 9223372036854775807 ∧ Gr w wx ∧ Blk wx w.heap.size #[.int .i64 a.addr, .int .i64 a.cnt, .slice a.A a.n a.c] 25)
  case first =>
    clear hX
    obtain ⟨⟨y0, y1, y2⟩, _⟩ := K6.out X (Gr.refl X)
    go_region_with (first
      | (go_at_call 6; (with_reducible refine (CF.out _ (HGX.out.trans (Gr.refl X).dr)).mono ?_); rintro ee wF ⟨B, m, rfl, hrow, hbF⟩; have hgF := Lib.hid ((Gr.refl X).dr.trans hbF); have HRW := Lib.hid hrow; obtain ⟨⟨f0, f1, f2⟩, _⟩ := K6.out wF hgF.out; clear hbF hrow)
      | (go_at_call 7; (with_reducible refine (CA.out _).mono ?_); rintro ee wA ⟨rfl, hbA⟩; have hgA := Lib.hid (hgF.out.trans hbA); have HRWA := Lib.hid (srow_gr2 HRW.out hbA); obtain ⟨⟨g0, g1, g2⟩, ⟨i0, i1, i2⟩, i3⟩ := K6.out wA hgA.out; clear hbA))
    all_goals (go_wp2_with fail; go_meet)
    all_goals exact ⟨B, m, rfl, FIN.out B m wA HRWA.out hgA.out⟩
  case rest =>
    obtain ⟨B, m, rfl, hM, hle, hmx, hG, hA⟩ := hcut
    obtain ⟨V, rfl⟩ : ∃ V, V = wc := ⟨_, rfl⟩
    clear hX CA CF K6 HGX FIN hLok
    have HM := Lib.hid hM
    have HG := Lib.hid hG
    have HA := Lib.hid hA
    have HLE := Lib.hid hle
    have HMX := Lib.hid hmx
    have CAL := Lib.hid alive_ok
    have CR := Lib.hid (fun W => Root_is addr W)
    obtain ⟨ρ, hρ⟩ : ∃ ρ, rf addr = ρ := ⟨_, rfl⟩
    obtain ⟨ε, hε⟩ : ∃ ε, re addr = ε := ⟨_, rfl⟩
    rw [hρ, hε] at CR
    have HRHO := Lib.hid hρ
    have HEPS := Lib.hid hε
    obtain ⟨g2, e2, hG2⟩ := GetR.any L addr
    obtain ⟨R4, e4, hS4⟩ := SetR.any L a
    obtain ⟨R5, e5, hU5⟩ := UndR.any L z
    obtain ⟨bR, hbR⟩ := yes_no (Tab L)
    obtain ⟨bK, hbK⟩ := yes_no (IsKey addr)
    have KG := Lib.hid (Get_is (c := m) hM HAD.out hG2)
    have K4 := Lib.hid (fun W (g : Gr V W) => Set_is (HM.out.gr g) HLE.out HMX.out (haok.out.gr (HG.out.trans g)) hS4)
    have K5 := Lib.hid (fun W (g : Gr V W) => Under_is (c := m) (HM.out.gr g) hU5)
    have KR := Lib.hid (fun W (g : Gr V W) => RRight_is (c := m) (HM.out.gr g) hbR)
    have KRR := Lib.hid (fun W (g : Gr V W) => rTab_is (c := m) (HM.out.gr g) (by omega) hbR)
    have KK := Lib.hid (fun W => rKey_is addr hbK W)
    have HG2 := Lib.hid hG2
    have HS4 := Lib.hid hS4
    have HU5 := Lib.hid hU5
    have HBR := Lib.hid hbR
    have HBK := Lib.hid hbK
    obtain ⟨r5, hr5⟩ : ∃ r5, R5.length = r5 := ⟨_, rfl⟩
    rw [hr5] at K5
    have HR5 := Lib.hid hr5
    clear hM hG hA hle hmx hρ hε hG2 hS4 hU5 hbR hbK hr5
    go_wp2_with fail
    with_reducible refine (CR.out _).mono ?_
    rintro ee w1 ⟨rfl, hw1⟩
    obtain rfl : V = w1 := hw1.symm
    go_wp2_with fail
    with_reducible refine KG.out.mono ?_
    rintro ee w2 ⟨y, rfl, hy, hyp, h2⟩
    have HY := Lib.hid (hy.gr ((Gr.refl w2).al (.cells #[.int .i64 y.addr, .int .i64 y.cnt, .slice y.A y.n y.c] 25)))
    have HYP := Lib.hid hyp
    have F2 := Lib.hid (h2.al (.cells #[.int .i64 y.addr, .int .i64 y.cnt, .slice y.A y.n y.c] 25))
    have BG := Lib.hid (Blk.new w2 #[.int .i64 y.addr, .int .i64 y.cnt, .slice y.A y.n y.c] 25)
    obtain ⟨W2, hW2⟩ : ∃ W2, w2.alloc (.cells #[.int .i64 y.addr, .int .i64 y.cnt, .slice y.A y.n y.c] 25) = W2 := ⟨_, rfl⟩
    rw [hW2] at HY F2 BG
    have A2 := HA.out.gr F2.out
    obtain ⟨s0, _⟩ := A2.at_ (k := 0) rfl
    obtain ⟨s1, _⟩ := A2.at_ (k := 1) rfl
    obtain ⟨s2, _⟩ := A2.at_ (k := 2) rfl
    obtain ⟨gb, hgb⟩ : ∃ gb, w2.heap.size = gb := ⟨_, rfl⟩
    rw [hgb] at BG
    clear hy hyp h2 KG A2
    go_wp2_with fail
    clear hW2
    with_reducible refine (K4.out _ F2.out).mono ?_
    rintro ee w3 ⟨B4, m4, T4, rfl, hT4, hlT4, hmT4, hp4, h3⟩
    obtain ⟨N4, hN4⟩ : ∃ N4, T4.length = N4 := ⟨_, rfl⟩
    rw [hN4] at hT4 ⊢
    have HT4 := Lib.hid hT4
    have HP4 := Lib.hid hp4
    have HN4 := Lib.hid hN4
    have F3 := Lib.hid h3
    have FV3 := Lib.hid (F2.out.trans h3)
    clear s0 s1 s2 hT4 hlT4 hmT4 hp4 hN4 h3 K4 hgb
    go_wp2_with fail
    with_reducible refine (K5.out _ (F2.out.trans F3.out)).mono ?_
    rintro ee w4 ⟨C5, d5, rfl, hu5, hd5, h4⟩
    have HU5M := Lib.hid hu5
    have F4 := Lib.hid h4
    clear hu5 hd5 h4 K5
    go_wp2_with fail
    with_reducible refine (KRR.out _ (FV3.out.trans F4.out)).mono ?_
    rintro ee w5 ⟨rfl, h5⟩
    have F5 := Lib.hid (F4.out.trans h5)
    have HU5M' := Lib.hid (HU5M.out.gr h5)
    clear h5 KRR
    go_wp2_with fail
    with_reducible refine (KK.out _).mono ?_
    rintro ee w6 ⟨rfl, hw6⟩
    obtain rfl : w5 = w6 := hw6.symm
    go_wp2_with fail
    with_reducible refine (KR.out _ (FV3.out.trans F5.out)).mono ?_
    rintro ee w6 ⟨rfl, h6⟩
    have F6 := Lib.hid (F5.out.trans h6)
    have HU5M6 := Lib.hid (HU5M'.out.gr h6)
    clear h6 KR HU5M HU5M'
    have hbb : (bR != bR) = false := by simp
    go_wp2_with fail
    with_reducible refine (CAL.out _).mono ?_
    rintro ee w7 ⟨rfl, h7⟩
    have F7 := Lib.hid (F6.out.trans h7)
    have HU5M7 := Lib.hid (HU5M6.out.gr h7)
    clear h7 HU5M6 KK
    go_upto_if 60 with fail
    go_cut [] (fun wx => Gr w7 wx)
    case first =>
      cases bK with
      | false =>
        have hk : ¬ IsKey addr := fun h => absurd (HBK.out.2 h) (by simp)
        have e1 : ε = 1 := HEPS.out.symm.trans (re_no hk)
        have e2 : ρ = 0 := HRHO.out.symm.trans (rf_no hk)
        subst e1 e2
        clear hk
        go_wp2_with fail
        go_meet
        exact Gr.refl _
      | true =>
        have hk : IsKey addr := HBK.out.1 rfl
        have e1 : ε = 0 := HEPS.out.symm.trans (re_key hk)
        have CRT := Lib.hid (fun W => rRoot_is hk W)
        rw [← rf_key hk, HRHO.out] at CRT
        subst e1
        have hrr : (ρ != ρ) = false := by simp
        clear hk
        go_wp2_with fail
        with_reducible refine (CRT.out _).mono ?_
        rintro ee w8 ⟨rfl, hw8⟩
        obtain rfl : w7 = w8 := hw8.symm
        go_wp2_with fail
        go_meet
        exact Gr.refl _
    case rest =>
      obtain ⟨w8, rfl⟩ : ∃ w8, w8 = wc := ⟨_, rfl⟩
      have F8 := Lib.hid (F7.out.trans hcut)
      have HU5M8 := Lib.hid (HU5M7.out.gr hcut)
      clear hcut F7 HU5M7 F6 HRHO HEPS hbb CR
      go_upto_region 14 with fail
      obtain ⟨bB, hbB⟩ : ∃ bB : Bool, (!bR || !bK) = bB := ⟨_, rfl⟩
      go_cut [80] (fun c wx => c = .bool bB ∧ wx = w8)
      case first =>
        subst hbB
        cases bR <;> cases bK <;> (go_wp2_with fail; go_meet; exact ⟨rfl, rfl⟩)
      obtain ⟨rfl, hwx⟩ := hcut
      obtain rfl : w8 = wc := hwx.symm
      have HBB := Lib.hid hbB
      clear hwx hbB
      go_upto_if 80 with fail
      go_cut [] (fun wx => Gr w8 wx)
      case first =>
        have HY8 := Lib.hid ((HY.out.gr F3.out).gr F8.out)
        have B8 := (BG.out.gr F3.out).gr F8.out
        obtain ⟨r0, _⟩ := B8.at_ (k := 0) rfl
        obtain ⟨r1, _⟩ := B8.at_ (k := 1) rfl
        obtain ⟨r2, _⟩ := B8.at_ (k := 2) rfl
        have rl := B8.lt
        clear B8
        by_cases hgd : IsKey addr ∧ Tab L
        · obtain rfl : bK = true := HBK.out.2 hgd.1
          obtain rfl : bR = true := HBR.out.2 hgd.2
          obtain rfl : bB = false := HBB.out.symm
          obtain ⟨_, _, he, hgx⟩ := HG2.out.resolve_left (fun h => h.1.elim (fun h => h hgd.1) (fun h => h hgd.2))
          subst he
          have KGET := Lib.hid (fun W (g : Gr V W) => rGet_is (c := m) (HM.out.gr g) (by omega) HAD.out (g := g2)
            (fun x hx hxa => by
              rcases hgx with ⟨x', hx', hxa', e⟩ | ⟨hno, _⟩
              · rw [e, tok_one hgd.2.2 hx' hx (hxa'.trans hxa.symm)]
              · exact absurd ⟨x, hx, hxa⟩ hno)
            (fun hno => by
              rcases hgx with ⟨x', hx', hxa', e⟩ | ⟨_, e⟩
              · exact absurd ⟨x', hx', hxa'⟩ hno
              · exact e))
          have KSP := Lib.hid (fun W (g : Gr w8 W) (y' : SV) (h' : y'.ok W) (hp' : y'.pl = g2) => rSpots_is (HY8.out.gr g) h' (v := true) ⟨fun _ => HYP.out.trans hp'.symm, fun _ => rfl⟩)
          have FV := Lib.hid (FV3.out.trans F8.out)
          clear hgx hgd
          go_upto_region 17 with fail
          go_region_held3 (fun W => W.cell? ⟨gb, 0, none⟩ = some (.int .i64 y.addr) ∧ W.cell? ⟨gb, 1, none⟩ = some (.int .i64 y.cnt) ∧ W.cell? ⟨gb, 2, none⟩ = some (.slice y.A y.n y.c) ∧ gb < W.heap.size ∧ Gr w8 W)
            (first | exact ⟨r0, r1, r2, rl, (Gr.refl w8).dr⟩ | assumption | (go_split_ands; exact ⟨(hb.cell (p := ⟨gb, 0, none⟩) (by assumption)).trans (by assumption), (hb.cell (p := ⟨gb, 1, none⟩) (by assumption)).trans (by assumption), (hb.cell (p := ⟨gb, 2, none⟩) (by assumption)).trans (by assumption), Nat.lt_of_lt_of_le (by assumption) hb.size, Gr.trans (by assumption) hb⟩))
            (first | (go_at_call 18; (with_reducible refine (KGET.out _ (FV.out.trans (by go_split_ands; assumption))).mono ?_); rintro ee w11 ⟨y', rfl, hy', hyp', hb⟩) | (go_at_call 17; (with_reducible refine (KSP.out _ (by go_split_ands; assumption) y' hy' hyp').mono ?_); rintro ee w12 ⟨rfl, hb⟩))
          all_goals (rename_i hH; have F12 := Lib.hid hH.2.2.2.2; clear hH; go_wp2_with fail; go_meet; exact F12.out)
        · obtain ⟨_, hg, he⟩ := HG2.out.resolve_right (fun h => hgd ⟨h.1, h.2.1⟩)
          subst he
          have KS0 := Lib.hid (rSpots_is HY8.out (ok_zero w8 b64_zero) (v := true) ⟨fun _ => HYP.out.trans hg, fun _ => rfl⟩)
          cases bR with
          | false =>
            obtain rfl : bB = true := HBB.out.symm
            clear hgd hg
            go_wp2_with fail
            with_reducible refine KS0.out.mono ?_
            rintro ee w9 ⟨rfl, h9⟩
            have F9 := Lib.hid h9
            clear h9
            go_wp2_with fail
            go_meet
            exact F9.out
          | true =>
            obtain rfl : bK = false := by
              cases bK with
              | false => rfl
              | true => exact absurd ⟨HBK.out.1 rfl, HBR.out.1 rfl⟩ hgd
            obtain rfl : bB = true := HBB.out.symm
            clear hgd hg
            go_wp2_with fail
            with_reducible refine KS0.out.mono ?_
            rintro ee w9 ⟨rfl, h9⟩
            have F9 := Lib.hid h9
            clear h9
            go_wp2_with fail
            go_meet
            exact F9.out
      case rest =>
        obtain ⟨w9, rfl⟩ : ∃ w9, w9 = wc := ⟨_, rfl⟩
        have F9 := Lib.hid (F8.out.trans hcut)
        have HU5M9 := Lib.hid (HU5M8.out.gr hcut)
        clear hcut F8 HU5M8 HY HYP BG HG2 HBK HBB
        go_upto_region 19 with fail
        obtain ⟨bZ, hbZ⟩ := yes_no (¬ Tab L ∨ z < 0 ∨ 250 < z)
        have HBZ := Lib.hid hbZ
        clear hbZ
        go_cut [108] (fun c wx => c = .bool bZ ∧ wx = w9)
        case first =>
          cases bR with
          | false =>
            obtain rfl : bZ = true := HBZ.out.2 (.inl fun h => absurd (HBR.out.2 h) (by simp))
            go_wp2_with fail
            go_meet
            exact ⟨rfl, rfl⟩
          | true =>
            by_cases h1 : z < 0
            · obtain rfl : bZ = true := HBZ.out.2 (.inr (.inl h1))
              have hd : decide (z < 0) = true := decide_eq_true h1
              clear h1
              go_wp2_with fail
              go_meet
              exact ⟨rfl, rfl⟩
            · by_cases h2 : 250 < z
              · obtain rfl : bZ = true := HBZ.out.2 (.inr (.inr h2))
                have hd : decide (z < 0) = false := decide_eq_false h1
                have hd2 : decide (250 < z) = true := decide_eq_true h2
                clear h1 h2
                go_wp2_with fail
                go_meet
                exact ⟨rfl, rfl⟩
              · obtain rfl : bZ = false := by
                  cases bZ with
                  | false => rfl
                  | true => exact absurd (HBZ.out.1 rfl) (fun h => h.elim (fun h => h (HBR.out.1 rfl)) (fun h => h.elim h1 h2))
                have hd : decide (z < 0) = false := decide_eq_false h1
                have hd2 : decide (250 < z) = false := decide_eq_false h2
                clear h1 h2
                go_wp2_with fail
                go_meet
                exact ⟨rfl, rfl⟩
        obtain ⟨rfl, hwx⟩ := hcut
        obtain rfl : w9 = wc := hwx.symm
        clear hwx
        go_upto_if 108 with fail
        go_cut [] (fun wx => Gr w9 wx)
        case first =>
          cases bZ with
          | true =>
            obtain ⟨_, hR, he⟩ := HU5.out.resolve_right (fun h => by
              have := HBZ.out.1 rfl
              rcases this with h1 | h1 | h1
              · exact h1 h.1
              · exact absurd h.2.1 (by omega)
              · exact absurd h.2.2.1 (by omega))
            have hr0 : r5 = 0 := by rw [← HR5.out, hR]; rfl
            subst he hr0
            clear hR
            go_wp2_with fail
            go_meet
            exact Gr.refl _
          | false =>
            obtain ⟨ht, _, _, hR, he⟩ := HU5.out.resolve_left (fun h => absurd (HBZ.out.2 h.1) (by simp))
            subst he
            have KU := Lib.hid (rUnder_is (c := m) (HM.out.gr (FV3.out.trans F9.out)) (by omega) ht.2 z)
            have hul : (und L z).length ≤ 70 := by have := und_len L z; have := HN.out; omega
            obtain ⟨U, hU⟩ : ∃ U, und L z = U := ⟨_, rfl⟩
            rw [hU] at KU hul hR
            subst hR
            obtain ⟨u, hu⟩ : ∃ u, R5.length = u := ⟨_, rfl⟩
            obtain rfl : u = r5 := hu.symm.trans HR5.out
            rw [hu] at KU hul
            clear ht hU hu
            go_wp2_with fail
            with_reducible refine KU.out.mono ?_
            rintro ee w10 ⟨C, k, rfl, hui, huk, h10⟩
            have F10 := Lib.hid h10
            have KSM := Lib.hid (L7.rSame_is (c := d5) (d := k) (HU5M9.out.gr h10) hui (by omega) (by omega) (v := true) ⟨fun _ => rfl, fun _ => rfl⟩)
            clear hui huk h10
            go_wp2_with fail
            with_reducible refine KSM.out.mono ?_
            rintro ee w11 ⟨rfl, h11⟩
            have F11 := Lib.hid (F10.out.trans h11)
            clear h11
            go_wp2_with fail
            go_meet
            exact F11.out
        case rest =>
          obtain ⟨w10, rfl⟩ : ∃ w10, w10 = wc := ⟨_, rfl⟩
          have F10 := Lib.hid (F9.out.trans hcut)
          clear hcut F9 HU5M9 HBZ HU5 HR5
          have A10 := HA.out.gr (FV3.out.trans F10.out)
          obtain ⟨s0, _⟩ := A10.at_ (k := 0) rfl
          obtain ⟨s1, _⟩ := A10.at_ (k := 1) rfl
          obtain ⟨s2, _⟩ := A10.at_ (k := 2) rfl
          clear A10
          cases bR with
          | false =>
            obtain ⟨_, hR, he⟩ := HS4.out.resolve_right (fun h => absurd (HBR.out.2 h.2.1) (by simp))
            have hT0 : T4 = [] := List.map_eq_nil_iff.1 (HP4.out.trans hR)
            have hn0 : N4 = 0 := by rw [← HN4.out, hT0]; rfl
            subst he hn0
            have GF := Lib.hid (HG.out.trans (FV3.out.trans F10.out))
            clear hR hT0
            go_wp2_with fail
            go_ret
            exact ⟨rfl, GF.out⟩
          | true =>
            have hoka := haok.out.gr (HG.out.trans (FV3.out.trans F10.out))
            obtain ⟨bS, hbS⟩ := yes_no (SOk a)
            have KSO := Lib.hid (rspot_is hoka hbS)
            have HBS := Lib.hid hbS
            clear hbS hoka
            go_wp2_with fail
            with_reducible refine KSO.out.mono ?_
            rintro ee w11 ⟨rfl, h11⟩
            have F11 := Lib.hid (F10.out.trans h11)
            clear h11 s0 s1 s2 KSO
            cases bS with
            | false =>
              obtain ⟨_, hR, he⟩ := HS4.out.resolve_right (fun h => absurd (HBS.out.2 h.1) (by simp))
              have hT0 : T4 = [] := List.map_eq_nil_iff.1 (HP4.out.trans hR)
              have hn0 : N4 = 0 := by rw [← HN4.out, hT0]; rfl
              subst he hn0
              have GF := Lib.hid (HG.out.trans (FV3.out.trans F11.out))
              clear hR hT0
              go_wp2_with fail
              go_ret
              exact ⟨rfl, GF.out⟩
            | true =>
              have hS := HBS.out.1 (by trivial)
              have hT := HBR.out.1 (by trivial)
              have h4 := HS4.out.resolve_left (fun h => h.1.elim (fun h => h hS) (fun h => h hT))
              have KST := Lib.hid (rSet_is (c := m) (HM.out.gr (FV3.out.trans F11.out)) (by omega) hT.2 hS (haok.out.gr (HG.out.trans (FV3.out.trans F11.out))))
              obtain ⟨Z, hZ⟩ : ∃ Z, setl L a = Z := ⟨_, rfl⟩
              rw [hZ] at KST h4
              obtain ⟨ζ, hζ⟩ : ∃ ζ, Z.length = ζ := ⟨_, rfl⟩
              rw [hζ] at KST h4
              have H4 := Lib.hid h4
              have A11 := HA.out.gr (FV3.out.trans F11.out)
              obtain ⟨s0, _⟩ := A11.at_ (k := 0) rfl
              obtain ⟨s1, _⟩ := A11.at_ (k := 1) rfl
              obtain ⟨s2, _⟩ := A11.at_ (k := 2) rfl
              clear hS hT h4 hZ A11
              go_wp2_with fail
              with_reducible refine KST.out.mono ?_
              rintro ee w12 ⟨B6, m6, rfl, hz, hzm, h12⟩
              have F12 := Lib.hid (F11.out.trans h12)
              have HZ := Lib.hid hz
              clear hz hzm h12 s0 s1 s2 KST
              have GF := Lib.hid (HG.out.trans (FV3.out.trans F12.out))
              by_cases h64 : ζ ≤ 64
              · obtain ⟨_, hR, he⟩ := H4.out.2.2.resolve_left (fun h => absurd h.1 (by omega))
                subst he
                have hd : decide ((64 : Int) < (ζ : Int)) = false := decide_eq_false (by omega)
                have hN4 : N4 = ζ := by
                  rw [← HN4.out, ← hζ]
                  have := congrArg List.length (HP4.out.trans hR)
                  simpa using this
                have KSS := Lib.hid (rSame_is (c := m4) (d := m6) (HT4.out.gr F12.out) HZ.out (by omega) (v := true) ⟨fun _ => HP4.out.trans hR, fun _ => rfl⟩)
                subst hN4
                clear hR hζ h64
                go_wp2_with fail
                with_reducible refine KSS.out.mono ?_
                rintro ee w13 ⟨rfl, h13⟩
                have GG := Lib.hid (GF.out.trans h13)
                clear h13
                go_wp2_with fail
                go_ret
                exact ⟨rfl, GG.out⟩
              · obtain ⟨_, hR, he⟩ := H4.out.2.2.resolve_right (fun h => absurd h.1 h64)
                have hT0 : T4 = [] := List.map_eq_nil_iff.1 (HP4.out.trans hR)
                have hn0 : N4 = 0 := by rw [← HN4.out, hT0]; rfl
                have hd : decide ((64 : Int) < (ζ : Int)) = true := decide_eq_true (by omega)
                subst he hn0
                clear hR hT0 h64 hζ
                go_wp2_with fail
                go_ret
                exact ⟨rfl, GF.out⟩
set_option maxRecDepth 100000 in
theorem RootTells_lifted (os : Os) (started : os.Started) (H : Type) (enc : TypeId × Value → H) :
    ReturnsInHanded {} Try.checked os 3 .any (Rows.rootTellsSpec.pre6 enc Try.prog Try.f3 Rows.rootTellsRow.domain false) (Rows.rootTellsSpec.post enc Try.prog Try.f3 false true false false) := by
  refine returnsInHanded_of_change (C := Try.checked) own started (by kernel_rfl) Try.func3
    (ChangeSpec.witness6 (enc := enc) (C := Try.checked) false ⟨#[], #[.slice none 0 0, .agg #[.int .i64 0, .int .i64 0, .slice none 0 0], .int .i64 0, .int .i64 0], []⟩ 8 (by kernel_rfl) (by kernel_rfl) (by kernel_rfl) (by kernel_rfl)) ?_
  intro W base args ds gs before hval0 hW hcnd _
  have hval : ∀ (j : Nat) t v, Try.f3.params[j]? = some t → args[j]? = some v → Value.okWide Try.prog W .any base t v := hval0
  have hW' := hW
  obtain ⟨p, q, hA0, hV, rfl, hfz, hnd⟩ := hW
  have hA : DataW.TrodAll enc Try.prog W 0 (fun _ => true) true Try.f3.params.toList args.toList ds p := hA0
  rw [Try.params3] at hA hval
  have hK := hA
  obtain ⟨v0, vs0, d0, ds0, p0, q0, hargs, rfl, hp, h0, r0⟩ := trodAll_cons hA
  obtain ⟨v1, vs1, d1, ds1, p1, q1, rfl, rfl, rfl, h1, r1⟩ := trodAll_cons r0
  obtain ⟨v2, vs2, d2, ds2, p2, q2, rfl, rfl, rfl, h2, r2⟩ := trodAll_cons r1
  obtain ⟨v3, vs3, d3, ds3, p3, q3, rfl, rfl, rfl, h3, r3⟩ := trodAll_cons r2
  obtain ⟨rfl, rfl, rfl⟩ := trodAll_nil r3
  obtain rfl : args = #[v0, v1, v2, v3] := by cases args; simp_all
  obtain ⟨rfl, rfl⟩ := trodVars_none hV
  obtain ⟨A0, n0, c0, l0, rfl, hc0, hn0, hm0⟩ := open_spots (hval 0 22 v0 rfl rfl) h0
  obtain ⟨x1, rfl, hx1⟩ := open_spot (hval 1 25 v1 rfl rfl) h1
  obtain ⟨a2, rfl, rfl, rfl, w2⟩ := open_int Try.underlying3 (hval 2 3 v2 rfl rfl) h2
  obtain ⟨a3, rfl, rfl, rfl, w3⟩ := open_int Try.underlying3 (hval 3 3 v3 rfl rfl) h3
  clear hA0 hval0
  refine (RootTells_walk W A0 n0 c0 l0 hc0 hn0 hm0 x1 hx1 a2 (wfb w2) a3 (wfb w3)).mono fun e W' ⟨he, hg⟩ => ?_
  subst he
  exact ⟨_, rfl, post_below (pa := p) (pv := []) hW' (fun _ _ _ => (trodAll_cons_mk (shut_bool Try.underlying4 _) trodAll_mk0))
    (fun sp hs => trodAll_stays laidOut hg sp (by kernel_rfl) hK (fun x hx => hW'.lt x (List.mem_append_left _ hx)) (fun x hx => hs x (List.mem_append_left _ hx))) (fun _ _ => rfl) rfl
    hg (ok_one (by kernel_rfl) rfl (okWide_bool_mk Try.underlying4 _))⟩

theorem RootTells_over : Rows.rootTellsRow.holds Try.pinned (OpenSpec.ofChange Rows.rootTellsSpec) :=
  OpenClaim.holds_of_wide 3 Try.f3 rfl rfl rfl rfl rfl rfl rfl ⟨rfl, rfl, rfl, rfl, rfl⟩ rfl rfl rfl rfl rfl (by kernel_rfl) Try.func3 (by kernel_rfl)
    (of_decide_eq_true (by kernel_rfl)) (by unfold Func.isWrapper; first | (rw [if_pos (by decide +kernel)]; kernel_rfl) | (rw [if_neg (by decide +kernel)]; exact ⟨rfl, rfl⟩))
    (fun os started H enc _ => RootTells_lifted os started H enc)

/-- The statement. -/
theorem RootTells_holds : Rows.RootTellsSaid :=
  RootTells_over
#print axioms RootTells_holds
end Go.Proofs.Ytdioecicakpfdaa
