/-
  The law RootKeeps: for every slice of spots, any two spots and any number, the law's function returns true, and its arguments read behind the call as they read before. No condition.
-/
import Derived.Test.YtdioecicakpfdaaRootFew
import Derived.Test.YtdioecicakpfdaaRootPl
import Derived.Test.YtdioecicakpfdaaEnds
import Derived.Deep.RegionWith
import Derived.Deep.DeepCutAuto
namespace Go.Proofs.Ytdioecicakpfdaa
open Go.ChangeShapes Go.WideShapes Go.ChangeAt Go.RowKit
set_option linter.unusedVariables false
set_option linter.unusedSimpArgs false

set_option maxRecDepth 100000 in
set_option maxHeartbeats 8000000 in
theorem RootKeeps_walk (w : World) (A0 : Option Addr) (n0 c0 : Nat) (L0 : List SV) (hc : n0 ≤ c0) (hn : n0 ≤ 9223372036854775807) (hm0 : SMem w A0 n0 L0) (a0 : SV) (ha0 : a0.ok w) (b0 : SV) (hb0 : b0.ok w) (addr : Int) (hadr : B64 addr) :
    Calls Try.prog 4 #[.slice A0 n0 c0, .agg #[.int .i64 a0.addr, .int .i64 a0.cnt, .slice a0.A a0.n a0.c], .agg #[.int .i64 b0.addr, .int .i64 b0.cnt, .slice b0.A b0.n b0.c], .int .i64 addr] w fun e w' => e = .returned (.bool true) ∧ Gr w w' := by
  have CA := Lib.hid (cut_is ha0)
  have CB := Lib.hid (cut_is hb0)
  have CF := Lib.hid (fun W (g : Gr w W) => few_row (c := c0) hm0 g hc hn)
  have haok := Lib.hid (cutS.ok ha0)
  have hbok := Lib.hid (cutS.ok hb0)
  have hLok := Lib.hid (fewL_ok hm0)
  have hl70 := fewL_len L0
  obtain ⟨X, hX⟩ : ∃ X, (w.alloc (.cells #[.int .i64 a0.addr, .int .i64 a0.cnt, .slice a0.A a0.n a0.c] 25)).alloc (.cells #[.int .i64 b0.addr, .int .i64 b0.cnt, .slice b0.A b0.n b0.c] 25) = X := ⟨_, rfl⟩
  have gX : Gr w X := by rw [← hX]; exact ((Gr.refl w).al _).al _
  have BA : Blk X w.heap.size #[.int .i64 a0.addr, .int .i64 a0.cnt, .slice a0.A a0.n a0.c] 25 := by rw [← hX]; exact (Blk.new w _ _).al _
  have BB : Blk X (w.heap.size + 1) #[.int .i64 b0.addr, .int .i64 b0.cnt, .slice b0.A b0.n b0.c] 25 := by rw [← hX]; simpa using Blk.new (w.alloc (.cells #[.int .i64 a0.addr, .int .i64 a0.cnt, .slice a0.A a0.n a0.c] 25)) #[.int .i64 b0.addr, .int .i64 b0.cnt, .slice b0.A b0.n b0.c] 25
  obtain ⟨L, hL⟩ : ∃ L, fewL L0 = L := ⟨_, rfl⟩
  rw [hL] at CF hLok hl70
  obtain ⟨a, hae⟩ : ∃ a, cutS a0 = a := ⟨_, rfl⟩
  rw [hae] at CA haok
  obtain ⟨b, hbe⟩ : ∃ b, cutS b0 = b := ⟨_, rfl⟩
  rw [hbe] at CB hbok
  clear hL hae hbe ha0 hb0 hm0 hc hn
  obtain ⟨N, hN⟩ : ∃ N, L.length = N := ⟨_, rfl⟩
  rw [hN] at CF hl70
  have HN := Lib.hid hN
  have HAD := Lib.hid hadr
  clear hN hadr
  have K6 : Hid (∀ W, Gr X W → (W.cell? ⟨w.heap.size, 0, none⟩ = some (.int .i64 a0.addr) ∧ W.cell? ⟨w.heap.size, 1, none⟩ = some (.int .i64 a0.cnt) ∧ W.cell? ⟨w.heap.size, 2, none⟩ = some (.slice a0.A a0.n a0.c)) ∧
      (W.cell? ⟨w.heap.size + 1, 0, none⟩ = some (.int .i64 b0.addr) ∧ W.cell? ⟨w.heap.size + 1, 1, none⟩ = some (.int .i64 b0.cnt) ∧ W.cell? ⟨w.heap.size + 1, 2, none⟩ = some (.slice b0.A b0.n b0.c)) ∧
      (W.frozen? ⟨w.heap.size, 0, none⟩ = false ∧ W.frozen? ⟨w.heap.size, 1, none⟩ = false ∧ W.frozen? ⟨w.heap.size, 2, none⟩ = false) ∧ (W.frozen? ⟨w.heap.size + 1, 0, none⟩ = false ∧ W.frozen? ⟨w.heap.size + 1, 1, none⟩ = false ∧ W.frozen? ⟨w.heap.size + 1, 2, none⟩ = false) ∧ w.heap.size + 1 < W.heap.size) := Lib.hid fun W g =>
    ⟨⟨((BA.gr g).at_ (k := 0) rfl).1, ((BA.gr g).at_ (k := 1) rfl).1, ((BA.gr g).at_ (k := 2) rfl).1⟩, ⟨((BB.gr g).at_ (k := 0) rfl).1, ((BB.gr g).at_ (k := 1) rfl).1, ((BB.gr g).at_ (k := 2) rfl).1⟩,
      ⟨((BA.gr g).at_ (k := 0) rfl).2, ((BA.gr g).at_ (k := 1) rfl).2, ((BA.gr g).at_ (k := 2) rfl).2⟩, ⟨((BB.gr g).at_ (k := 0) rfl).2, ((BB.gr g).at_ (k := 1) rfl).2, ((BB.gr g).at_ (k := 2) rfl).2⟩, (BB.gr g).lt⟩
  have FIN : Hid (∀ (B : Option Addr) (m : Nat) (W : World), SRow W X.drew.heap.size (.slice B N m) N L → Gr X W →
      SMem ((((((W.setCell ⟨w.heap.size, 0, none⟩ (.int .i64 a.addr)).setCell ⟨w.heap.size, 1, none⟩ (.int .i64 a.cnt)).setCell ⟨w.heap.size, 2, none⟩ (.slice a.A a.n a.c)).setCell ⟨w.heap.size + 1, 0, none⟩ (.int .i64 b.addr)).setCell ⟨w.heap.size + 1, 1, none⟩ (.int .i64 b.cnt)).setCell ⟨w.heap.size + 1, 2, none⟩ (.slice b.A b.n b.c)) B N L ∧ N ≤ m ∧ m ≤ 9223372036854775807 ∧
      Gr w ((((((W.setCell ⟨w.heap.size, 0, none⟩ (.int .i64 a.addr)).setCell ⟨w.heap.size, 1, none⟩ (.int .i64 a.cnt)).setCell ⟨w.heap.size, 2, none⟩ (.slice a.A a.n a.c)).setCell ⟨w.heap.size + 1, 0, none⟩ (.int .i64 b.addr)).setCell ⟨w.heap.size + 1, 1, none⟩ (.int .i64 b.cnt)).setCell ⟨w.heap.size + 1, 2, none⟩ (.slice b.A b.n b.c)) ∧
      Blk ((((((W.setCell ⟨w.heap.size, 0, none⟩ (.int .i64 a.addr)).setCell ⟨w.heap.size, 1, none⟩ (.int .i64 a.cnt)).setCell ⟨w.heap.size, 2, none⟩ (.slice a.A a.n a.c)).setCell ⟨w.heap.size + 1, 0, none⟩ (.int .i64 b.addr)).setCell ⟨w.heap.size + 1, 1, none⟩ (.int .i64 b.cnt)).setCell ⟨w.heap.size + 1, 2, none⟩ (.slice b.A b.n b.c)) w.heap.size #[.int .i64 a.addr, .int .i64 a.cnt, .slice a.A a.n a.c] 25 ∧
      Blk ((((((W.setCell ⟨w.heap.size, 0, none⟩ (.int .i64 a.addr)).setCell ⟨w.heap.size, 1, none⟩ (.int .i64 a.cnt)).setCell ⟨w.heap.size, 2, none⟩ (.slice a.A a.n a.c)).setCell ⟨w.heap.size + 1, 0, none⟩ (.int .i64 b.addr)).setCell ⟨w.heap.size + 1, 1, none⟩ (.int .i64 b.cnt)).setCell ⟨w.heap.size + 1, 2, none⟩ (.slice b.A b.n b.c)) (w.heap.size + 1) #[.int .i64 b.addr, .int .i64 b.cnt, .slice b.A b.n b.c] 25) := Lib.hid fun B m W hr hg => by
    have hxs : w.heap.size + 1 < X.drew.heap.size := BB.lt
    have p0 : w.heap.size < X.drew.heap.size := by omega
    have r6 := srow_cell (srow_cell (srow_cell (srow_cell (srow_cell (srow_cell hr p0 (o := 0) (.int .i64 a.addr)) p0 (o := 1) (.int .i64 a.cnt)) p0 (o := 2) (.slice a.A a.n a.c)) hxs (o := 0) (.int .i64 b.addr)) hxs (o := 1) (.int .i64 b.cnt)) hxs (o := 2) (.slice b.A b.n b.c)
    have q0 : w.heap.size ≤ w.heap.size + 1 := by omega
    have g6 := ((((((gX.trans hg).st (p := ⟨w.heap.size, 0, none⟩) (Nat.le_refl _) (.int .i64 a.addr)).st (p := ⟨w.heap.size, 1, none⟩) (Nat.le_refl _) (.int .i64 a.cnt)).st (p := ⟨w.heap.size, 2, none⟩) (Nat.le_refl _) (.slice a.A a.n a.c)).st (p := ⟨w.heap.size + 1, 0, none⟩) q0 (.int .i64 b.addr)).st (p := ⟨w.heap.size + 1, 1, none⟩) q0 (.int .i64 b.cnt)).st (p := ⟨w.heap.size + 1, 2, none⟩) q0 (.slice b.A b.n b.c)
    have nab : w.heap.size + 1 ≠ w.heap.size := by omega
    obtain ⟨B', m', e, h1, h2, h3⟩ := own_smem r6 (fun y hy => (hLok.out y hy).gr g6)
    cases e
    refine ⟨h1, h2, h3, g6, ?_, ?_⟩
    · exact (((spot_stored (BA.gr hg) rfl (.int .i64 a.addr) (.int .i64 a.cnt) (.slice a.A a.n a.c)).st (p := ⟨w.heap.size + 1, 0, none⟩) nab _).st (p := ⟨w.heap.size + 1, 1, none⟩) nab _).st (p := ⟨w.heap.size + 1, 2, none⟩) nab _
    · exact spot_stored ((((BB.gr hg).st (p := ⟨w.heap.size, 0, none⟩) nab.symm _).st (p := ⟨w.heap.size, 1, none⟩) nab.symm _).st (p := ⟨w.heap.size, 2, none⟩) nab.symm _) rfl (.int .i64 b.addr) (.int .i64 b.cnt) (.slice b.A b.n b.c)
  have HBA := Lib.hid BA
  have HBB := Lib.hid BB
  have HGX := Lib.hid gX
  clear BA BB gX
  go_enter Try.func4, Try.ntmps4
  have hN2 := HN.out
  go_upto_region 1 with fail
  go_cut [0] (fun t wx => ∃ B m, t = .slice B N m ∧ SMem wx B N L ∧ N ≤ m ∧ m ≤ 9223372036854775807 ∧ Gr w wx ∧ Blk wx w.heap.size #[.int .i64 a.addr, .int .i64 a.cnt, .slice a.A a.n a.c] 25 ∧ Blk wx (w.heap.size + 1) #[.int .i64 b.addr, .int .i64 b.cnt, .slice b.A b.n b.c] 25)
  case first =>
    clear hX
    obtain ⟨⟨y0, y1, y2⟩, ⟨z0, z1, z2⟩, _⟩ := K6.out X (Gr.refl X)
    go_region_with (first
      | (go_at_call 6; (with_reducible refine (CF.out _ (HGX.out.trans (Gr.refl X).dr)).mono ?_); rintro ee wF ⟨B, m, rfl, hrow, hbF⟩; have hgF := Lib.hid ((Gr.refl X).dr.trans hbF); have HRW := Lib.hid hrow; obtain ⟨⟨f0, f1, f2⟩, ⟨f3, f4, f5⟩, _⟩ := K6.out wF hgF.out; clear hbF hrow)
      | (go_at_call 7; (with_reducible refine (CA.out _).mono ?_); rintro ee wA ⟨rfl, hbA⟩; have hgA := Lib.hid (hgF.out.trans hbA); have HRWA := Lib.hid (srow_gr2 HRW.out hbA); obtain ⟨⟨g0, g1, g2⟩, ⟨g3, g4, g5⟩, _⟩ := K6.out wA hgA.out; clear hbA)
      | (go_at_call 7; (with_reducible refine (CB.out _).mono ?_); rintro ee wB ⟨rfl, hbB⟩; have hgB := Lib.hid (hgA.out.trans hbB); have HRWB := Lib.hid (srow_gr2 HRWA.out hbB); obtain ⟨⟨h0, h1, h2⟩, ⟨h3, h4, h5⟩, ⟨i0, i1, i2⟩, ⟨i3, i4, i5⟩, i6⟩ := K6.out wB hgB.out; clear hbB))
    all_goals (go_wp2_with fail; go_meet)
    all_goals exact ⟨B, m, rfl, FIN.out B m wB HRWB.out hgB.out⟩
  case rest =>
    obtain ⟨B, m, rfl, hM, hle, hmx, hG, hA, hBb⟩ := hcut
    obtain ⟨V, rfl⟩ : ∃ V, V = wc := ⟨_, rfl⟩
    clear hX CA CB CF K6 HBA HBB HGX FIN hLok
    have HM := Lib.hid hM
    have HG := Lib.hid hG
    have HA := Lib.hid hA
    have HBK := Lib.hid hBb
    have ea0 := (hA.at_ (k := 0) rfl).1
    have ea1 := (hA.at_ (k := 1) rfl).1
    have ea2 := (hA.at_ (k := 2) rfl).1
    obtain ⟨R1, e1, hS1⟩ := SetR.any L a
    have CS := Lib.hid (Set_is hM hle hmx (haok.out.gr hG) hS1)
    have HLE := Lib.hid hle
    have HMX := Lib.hid hmx
    have CAL := Lib.hid alive_ok
    have eb0 := (hBb.at_ (k := 0) rfl).1
    have eb1 := (hBb.at_ (k := 1) rfl).1
    have eb2 := (hBb.at_ (k := 2) rfl).1
    have elt := hBb.lt
    clear hM hG hA hBb hN2 hle hmx
    go_wp2_with fail
    with_reducible refine CS.out.mono ?_
    rintro ee w2 ⟨B1, m1, T, rfl, hT, hlT, hmT, hpl, h2⟩
    have G2 := Lib.hid (HG.out.trans h2)
    by_cases he1 : e1 = 0
    · subst he1
      obtain ⟨hsa, htL, h3⟩ := hS1.resolve_left (fun h => absurd h.2.2 (by decide))
      obtain ⟨h64, hR, _⟩ := h3.resolve_left (fun h => absurd h.2.2 (by decide))
      have hTpl : T.map SV.pl = (setl L a).map SV.pl := hpl.trans hR
      have hTT : Tab T := Tab.pl hTpl.symm ⟨h64, setl_ok htL.2 hsa⟩
      have hG1 : GetR T a.addr a.pl 0 := by
        obtain ⟨g, e, hg⟩ := GetR.any T a.addr
        obtain ⟨rfl, rfl⟩ := get_set htL hsa hTpl h64 hg
        exact hg
      obtain ⟨g2, e2, hG2⟩ := GetR.any L addr
      obtain ⟨g3, e3, hG3⟩ := GetR.any T addr
      obtain ⟨h23, hg23⟩ := get_other htL hsa hTpl h64 hG2 hG3
      subst h23
      have HGG := Lib.hid hg23
      have HSA := Lib.hid hsa
      have HTL := Lib.hid htL
      have HTT := Lib.hid hTT
      have HTP := Lib.hid hTpl
      have H64 := Lib.hid h64
      have HLT := Lib.hid hlT
      have HMT := Lib.hid hmT
      have HTm := Lib.hid hT
      have KG1 := Lib.hid (Get_is (c := m1) hT haok.out.1 hG1)
      have KG2 := Lib.hid (fun W (g : Gr V W) => Get_is (c := m) (HM.out.gr g) HAD.out hG2)
      have KG3 := Lib.hid (fun W (g : Gr w2 W) => Get_is (c := m1) (hT.gr g) HAD.out hG3)
      have hfr : Gr V w2 := h2
      have HFR := Lib.hid hfr
      obtain ⟨N1, hN1⟩ : ∃ N1, T.length = N1 := ⟨_, rfl⟩
      rw [hN1] at HLT HTm KG1 KG3
      have HN1 := Lib.hid hN1
      have A2 := HA.out.gr h2
      have ec0 := (A2.at_ (k := 0) rfl).1
      have ec1 := (A2.at_ (k := 1) rfl).1
      have ec2 := (A2.at_ (k := 2) rfl).1
      clear hS1 h3 hR hpl hTpl hTT hG1 hG2 hG3 hg23 hsa htL h64 hT hlT hmT h2 hfr CS ea0 ea1 ea2 A2
      rw [hN1]
      clear hN1
      go_wp2_with fail
      with_reducible refine KG1.out.mono ?_
      rintro ee w3 ⟨y1, rfl, hy1, hyp1, h3⟩
      have HY1 := Lib.hid hy1
      have HYP1 := Lib.hid hyp1
      have F3 := Lib.hid (h3.al (.cells #[.int .i64 y1.addr, .int .i64 y1.cnt, .slice y1.A y1.n y1.c] 25))
      have BG1 := Lib.hid (Blk.new w3 #[.int .i64 y1.addr, .int .i64 y1.cnt, .slice y1.A y1.n y1.c] 25)
      have G3 := Lib.hid ((Gr.refl w3).al (.cells #[.int .i64 y1.addr, .int .i64 y1.cnt, .slice y1.A y1.n y1.c] 25))
      have F3' := h3
      clear hy1 hyp1 h3 KG1 F3'
      go_wp2_with fail
      with_reducible refine (KG2.out _ (HFR.out.trans F3.out)).mono ?_
      rintro ee w4 ⟨y2, rfl, hy2, hyp2, h4⟩
      have HY2 := Lib.hid hy2
      have HYP2 := Lib.hid hyp2
      have F4 := Lib.hid (h4.al (.cells #[.int .i64 y2.addr, .int .i64 y2.cnt, .slice y2.A y2.n y2.c] 25))
      have BG2 := Lib.hid (Blk.new w4 #[.int .i64 y2.addr, .int .i64 y2.cnt, .slice y2.A y2.n y2.c] 25)
      have BG1' := Lib.hid ((BG1.out.gr h4).al (.cells #[.int .i64 y2.addr, .int .i64 y2.cnt, .slice y2.A y2.n y2.c] 25))
      have HY1' := Lib.hid ((HY1.out.gr G3.out).gr F4.out)
      clear hy2 hyp2 h4 KG2 BG1 HY1
      go_wp2_with fail
      with_reducible refine (KG3.out _ (F3.out.trans F4.out)).mono ?_
      rintro ee w5 ⟨y3, rfl, hy3, hyp3, h5⟩
      have HY3 := Lib.hid (hy3.gr ((Gr.refl w5).al (.cells #[.int .i64 y3.addr, .int .i64 y3.cnt, .slice y3.A y3.n y3.c] 25)))
      have HYP3 := Lib.hid hyp3
      have F5 := Lib.hid (h5.al (.cells #[.int .i64 y3.addr, .int .i64 y3.cnt, .slice y3.A y3.n y3.c] 25))
      have BG3 := Lib.hid (Blk.new w5 #[.int .i64 y3.addr, .int .i64 y3.cnt, .slice y3.A y3.n y3.c] 25)
      have BG2' := Lib.hid ((BG2.out.gr h5).al (.cells #[.int .i64 y3.addr, .int .i64 y3.cnt, .slice y3.A y3.n y3.c] 25))
      have BG1'' := Lib.hid (BG1'.out.gr F5.out)
      have HY1'' := Lib.hid (HY1'.out.gr F5.out)
      have HY2'' := Lib.hid ((HY2.out.gr ((Gr.refl w4).al (.cells #[.int .i64 y2.addr, .int .i64 y2.cnt, .slice y2.A y2.n y2.c] 25))).gr F5.out)
      clear hy3 hyp3 h5 KG3 BG2 BG1' HY1' HY2 ec0 ec1 ec2
      have F8 := Lib.hid ((F3.out.trans F4.out).trans F5.out)
      obtain ⟨W8, hW8⟩ : ∃ W8, w5.alloc (.cells #[.int .i64 y3.addr, .int .i64 y3.cnt, .slice y3.A y3.n y3.c] 25) = W8 := ⟨_, rfl⟩
      have HW8 := Lib.hid hW8
      rw [hW8] at F8 HY3 BG3 BG2' BG1'' HY1'' HY2''
      clear F3 F4 F5 G3
      go_upto_region 8 with fail
      clear hW8
      go_cut [99] (fun c wx => c = .bool false ∧ Gr W8 wx)
      case first =>
        have A8 := (HA.out.gr (HFR.out.trans F8.out))
        obtain ⟨a80, _⟩ := A8.at_ (k := 0) rfl
        obtain ⟨a81, _⟩ := A8.at_ (k := 1) rfl
        obtain ⟨a82, _⟩ := A8.at_ (k := 2) rfl
        obtain ⟨g80, _⟩ := BG1''.out.at_ (k := 0) rfl
        obtain ⟨g81, _⟩ := BG1''.out.at_ (k := 1) rfl
        obtain ⟨g82, _⟩ := BG1''.out.at_ (k := 2) rfl
        have KS1 := Lib.hid (rSpots_is HY1''.out (haok.out.gr ((HG.out.trans HFR.out).trans F8.out)) (v := true) ⟨fun _ => HYP1.out, fun _ => rfl⟩)
        go_wp2_with fail
        with_reducible refine KS1.out.mono ?_
        rintro ee w6 ⟨rfl, h6⟩
        have F6 := Lib.hid h6
        have A9 := A8.gr h6
        clear a80 a81 a82 g80 g81 g82 KS1 A8 h6
        obtain ⟨a80, _⟩ := A9.at_ (k := 0) rfl
        obtain ⟨p0, _⟩ := (BG2'.out.gr F6.out).at_ (k := 0) rfl
        obtain ⟨p1, _⟩ := (BG2'.out.gr F6.out).at_ (k := 1) rfl
        obtain ⟨p2, _⟩ := (BG2'.out.gr F6.out).at_ (k := 2) rfl
        obtain ⟨q0, _⟩ := (BG3.out.gr F6.out).at_ (k := 0) rfl
        obtain ⟨q1, _⟩ := (BG3.out.gr F6.out).at_ (k := 1) rfl
        obtain ⟨q2, _⟩ := (BG3.out.gr F6.out).at_ (k := 2) rfl
        have KR := Lib.hid (fun W (g : Gr w2 W) => RRight_is (c := m1) (HTm.out.gr g) (v := true) ⟨fun _ => HTT.out, fun _ => rfl⟩)
        clear A9
        by_cases hadd : addr = a.addr
        · have hb : (addr != a.addr) = false := by rw [hadd]; simp
          clear hadd
          go_wp2_with fail
          with_reducible refine (KR.out _ (F8.out.trans F6.out)).mono ?_
          rintro ee w7 ⟨rfl, h7⟩
          have F7 := Lib.hid (F6.out.trans h7)
          clear h7
          go_wp2_with fail
          with_reducible refine (CAL.out _).mono ?_
          rintro ee w9 ⟨rfl, h9⟩
          have F9 := Lib.hid (F7.out.trans h9)
          clear h9
          go_wp2_with fail
          go_meet
          exact ⟨rfl, F9.out⟩
        · have hb : (addr != a.addr) = true := by simp [bne, hadd]
          have KS2 := Lib.hid (rSpots_is (HY2''.out.gr F6.out) (HY3.out.gr F6.out) (v := true) ⟨fun _ => by rw [HYP2.out, HYP3.out, HGG.out hadd], fun _ => rfl⟩)
          clear hadd
          go_wp2_with fail
          with_reducible refine KS2.out.mono ?_
          rintro ee w7 ⟨rfl, h7⟩
          have F7 := Lib.hid (F6.out.trans h7)
          clear h7
          go_wp2_with fail
          with_reducible refine (KR.out _ (F8.out.trans F7.out)).mono ?_
          rintro ee w9 ⟨rfl, h9⟩
          have F9 := Lib.hid (F7.out.trans h9)
          clear h9
          go_wp2_with fail
          with_reducible refine (CAL.out _).mono ?_
          rintro ee w10 ⟨rfl, h10⟩
          have F10 := Lib.hid (F9.out.trans h10)
          clear h10
          go_wp2_with fail
          go_meet
          exact ⟨rfl, F10.out⟩
      case rest =>
        obtain ⟨rfl, hWX⟩ := hcut
        obtain ⟨W9, rfl⟩ : ∃ W9, W9 = wc := ⟨_, rfl⟩
        have H29 := Lib.hid (F8.out.trans hWX)
        have HV9 := Lib.hid (HFR.out.trans (F8.out.trans hWX))
        have HW9 := Lib.hid (HG.out.trans (HFR.out.trans (F8.out.trans hWX)))
        clear hWX HW8 BG3 BG2' BG1'' HY1'' HY2'' HY3 HYP1 HYP2 HYP3 HGG F8
        have CR := Lib.hid (fun W => Root_is a.addr W)
        rw [rf_key HSA.out.1, re_key HSA.out.1] at CR
        obtain ⟨a90, _⟩ := (HA.out.gr HV9.out).at_ (k := 0) rfl
        have CU := Lib.hid (Under_is (c := m1) (HTm.out.gr H29.out) (r := rt a.addr) (R := und T (rt a.addr)) (e := 0) (.inr ⟨HTT.out, (rt_range _).1, (rt_range _).2, rfl, rfl⟩))
        have hmem : a.addr ∈ und T (rt a.addr) ↔ ¬ SNil a := by
          rw [mem_und, ← has_setl HSA.out, ← has_pl HTP.out a.addr]
          exact ⟨fun ⟨x, h1, h2, _⟩ => ⟨x, h1, h2⟩, fun ⟨x, h1, h2⟩ => ⟨x, h1, h2, rfl⟩⟩
        have HME := Lib.hid hmem
        obtain ⟨U, hU⟩ : ∃ U, und T (rt a.addr) = U := ⟨_, rfl⟩
        rw [hU] at CU HME
        have hul : U.length ≤ 64 := by rw [← hU]; have := und_len T (rt a.addr); have := HTT.out.1; omega
        obtain ⟨u, hu⟩ : ∃ u, U.length = u := ⟨_, rfl⟩
        rw [hu] at CU hul
        obtain ⟨ρ, hρ⟩ : ∃ ρ, rt a.addr = ρ := ⟨_, rfl⟩
        rw [hρ] at CU CR
        clear hmem hU hu hρ
        go_wp2_with fail
        with_reducible refine (CR.out _).mono ?_
        rintro ee w10 ⟨rfl, hw10⟩
        obtain rfl : W9 = w10 := hw10.symm
        go_wp2_with fail
        with_reducible refine CU.out.mono ?_
        rintro ee w10 ⟨C, d, rfl, hui, hud, h10⟩
        have H210 := Lib.hid (H29.out.trans h10)
        have HV10 := Lib.hid (HV9.out.trans h10)
        have HW10 := Lib.hid (HW9.out.trans h10)
        obtain ⟨p, hp, hC⟩ : ∃ p : Int, (0 ≤ p ↔ ¬ SNil a) ∧ ∀ W, Gr w10 W → Calls Try.prog 24 #[.slice C u d, .int .i64 a.addr] W fun e w' => e = .returned (.int .i64 p) ∧ w' = W := by
          by_cases hin : a.addr ∈ U
          · obtain ⟨x1, x2, hx12, hx1⟩ : ∃ x1 x2, U = x1 ++ a.addr :: x2 ∧ a.addr ∉ x1 := List.eq_append_cons_of_mem hin
            refine ⟨(x1.length : Int), ⟨fun _ => HME.out.1 hin, fun _ => by omega⟩, fun W g => L7.rPlace_at (hui.gr g) (by omega) (by rw [hx12]; simp) fun j hj e => hx1 ?_⟩
            rw [hx12, List.getElem?_append_left hj] at e
            exact List.mem_of_getElem? e
          · exact ⟨-1, ⟨fun h => absurd h (by omega), fun h => absurd (HME.out.2 h) hin⟩, fun W g => L7.rPlace_no (hui.gr g) (by omega) hin⟩
        have KP := Lib.hid hC
        have HPP := Lib.hid hp
        obtain ⟨bE, hbE⟩ := yes_no (SNil a)
        have KE := Lib.hid (fun W => rempty_is (w := w) haok.out hbE W)
        have HBE := Lib.hid hbE
        have A10 := HA.out.gr HV10.out
        have r0 := (A10.at_ (k := 0) rfl).1
        have r1 := (A10.at_ (k := 1) rfl).1
        have r2 := (A10.at_ (k := 2) rfl).1
        have rl := A10.lt
        clear hui hud h10 CU CR a90 hC hp hbE HME A10
        go_upto_region 12 with fail
        go_cut [128] (fun c wx => c = .bool false ∧ Gr w10 wx)
        case first =>
          cases bE with
          | true =>
            have hpn : decide (0 ≤ p) = false := decide_eq_false fun h => HPP.out.1 h (HBE.out.1 rfl)
            go_region_held3 (fun W => W.cell? ⟨w.heap.size, 0, none⟩ = some (.int .i64 a.addr) ∧ W.cell? ⟨w.heap.size, 1, none⟩ = some (.int .i64 a.cnt) ∧ W.cell? ⟨w.heap.size, 2, none⟩ = some (.slice a.A a.n a.c) ∧ w.heap.size < W.heap.size ∧ Gr w10 W)
              (first | exact ⟨r0, r1, r2, rl, (Gr.refl w10).dr⟩ | assumption | (go_split_ands; exact ⟨(hb.cell (p := ⟨w.heap.size, 0, none⟩) (by assumption)).trans (by assumption), (hb.cell (p := ⟨w.heap.size, 1, none⟩) (by assumption)).trans (by assumption), (hb.cell (p := ⟨w.heap.size, 2, none⟩) (by assumption)).trans (by assumption), Nat.lt_of_lt_of_le (by assumption) hb.size, Gr.trans (by assumption) hb⟩))
              (first | (go_at_call 24; (with_reducible refine (KP.out _ (by go_split_ands; assumption)).mono ?_); rintro ee w11 ⟨rfl, rfl⟩) | (go_at_call 25; (with_reducible refine (KE.out _).mono ?_); rintro ee w11 ⟨rfl, hb⟩))
            all_goals (rename_i hH; have F12 := Lib.hid hH.2.2.2.2; clear hH; go_wp2_with fail; go_meet; exact ⟨rfl, F12.out⟩)
          | false =>
            have hpy : 0 ≤ p := HPP.out.2 fun h => absurd (HBE.out.2 h) (by simp)
            go_region_held3 (fun W => W.cell? ⟨w.heap.size, 0, none⟩ = some (.int .i64 a.addr) ∧ W.cell? ⟨w.heap.size, 1, none⟩ = some (.int .i64 a.cnt) ∧ W.cell? ⟨w.heap.size, 2, none⟩ = some (.slice a.A a.n a.c) ∧ w.heap.size < W.heap.size ∧ Gr w10 W)
              (first | exact ⟨r0, r1, r2, rl, (Gr.refl w10).dr⟩ | assumption | (go_split_ands; exact ⟨(hb.cell (p := ⟨w.heap.size, 0, none⟩) (by assumption)).trans (by assumption), (hb.cell (p := ⟨w.heap.size, 1, none⟩) (by assumption)).trans (by assumption), (hb.cell (p := ⟨w.heap.size, 2, none⟩) (by assumption)).trans (by assumption), Nat.lt_of_lt_of_le (by assumption) hb.size, Gr.trans (by assumption) hb⟩))
              (first | (go_at_call 24; (with_reducible refine (KP.out _ (by go_split_ands; assumption)).mono ?_); rintro ee w11 ⟨rfl, rfl⟩) | (go_at_call 25; (with_reducible refine (KE.out _).mono ?_); rintro ee w11 ⟨rfl, hb⟩))
            all_goals (rename_i hH; have F12 := Lib.hid hH.2.2.2.2; clear hH; go_wp2_with fail; go_meet; exact ⟨rfl, F12.out⟩)
        case rest =>
          obtain ⟨rfl, hWX⟩ := hcut
          obtain ⟨W12, rfl⟩ : ∃ W12, W12 = wc := ⟨_, rfl⟩
          have H2 := Lib.hid (H210.out.trans hWX)
          have HV := Lib.hid (HV10.out.trans hWX)
          have HW := Lib.hid (HW10.out.trans hWX)
          have hWg := HW.out.size
          clear hWX H210 HV10 HW10 H29 HV9 HW9 KP KE HPP HBE r0 r1 r2 rl
          obtain ⟨R4, e4, hS4⟩ := SetR.any T b
          obtain ⟨R5, e5, hS5⟩ := SetR.any L b
          have K4 := Lib.hid (Set_is (HTm.out.gr H2.out) HLT.out HMT.out (hbok.out.gr HW.out) hS4)
          have K5 := Lib.hid (fun W (g : Gr V W) (g' : Gr w W) => Set_is (HM.out.gr g) HLE.out HMX.out (hbok.out.gr g') hS5)
          have HS4 := Lib.hid hS4
          have HS5 := Lib.hid hS5
          have B12 := HBK.out.gr HV.out
          obtain ⟨s0, _⟩ := B12.at_ (k := 0) rfl
          obtain ⟨s1, _⟩ := B12.at_ (k := 1) rfl
          obtain ⟨s2, _⟩ := B12.at_ (k := 2) rfl
          clear hS4 hS5 B12
          go_wp2_with fail
          with_reducible refine K4.out.mono ?_
          rintro ee w13 ⟨B4, m4, T4, rfl, hT4, hlT4, hmT4, hp4, h13⟩
          obtain ⟨N4, hN4⟩ : ∃ N4, T4.length = N4 := ⟨_, rfl⟩
          rw [hN4] at hT4 hlT4
          have HT4 := Lib.hid hT4
          have HP4 := Lib.hid hp4
          have HN4 := Lib.hid hN4
          have F13 := Lib.hid h13
          have B13 := HBK.out.gr (HV.out.trans h13)
          rw [hN4]
          clear s0 s1 s2 hT4 hlT4 hmT4 hp4 hN4 h13 K4
          obtain ⟨s0, _⟩ := B13.at_ (k := 0) rfl
          obtain ⟨s1, _⟩ := B13.at_ (k := 1) rfl
          obtain ⟨s2, _⟩ := B13.at_ (k := 2) rfl
          clear B13
          go_wp2_with fail
          with_reducible refine (K5.out _ (HV.out.trans F13.out) (HW.out.trans F13.out)).mono ?_
          rintro ee w14 ⟨B5, m5, T5, rfl, hT5, hlT5, hmT5, hp5, h14⟩
          obtain ⟨R6, e6, hS6⟩ := SetR.any T5 a
          have F14 := Lib.hid (F13.out.trans h14)
          have K6 := Lib.hid (Set_is hT5 hlT5 hmT5 (haok.out.gr (HW.out.trans F14.out)) hS6)
          have HS6 := Lib.hid hS6
          have HP5 := Lib.hid hp5
          have HT4' := Lib.hid (HT4.out.gr h14)
          obtain ⟨N5, hN5⟩ : ∃ N5, T5.length = N5 := ⟨_, rfl⟩
          rw [hN5] at K6 ⊢
          have A14 := HA.out.gr (HV.out.trans F14.out)
          clear s0 s1 s2 hT5 hlT5 hmT5 hp5 h14 hS6 K5 HT4 hN5
          obtain ⟨s0, _⟩ := A14.at_ (k := 0) rfl
          obtain ⟨s1, _⟩ := A14.at_ (k := 1) rfl
          obtain ⟨s2, _⟩ := A14.at_ (k := 2) rfl
          clear A14
          go_wp2_with fail
          with_reducible refine K6.out.mono ?_
          rintro ee w15 ⟨B6, m6, T6, rfl, hT6, hlT6, hmT6, hp6, h15⟩
          have F15 := Lib.hid (F14.out.trans h15)
          obtain ⟨N6, hN6⟩ : ∃ N6, T6.length = N6 := ⟨_, rfl⟩
          rw [hN6] at hT6 ⊢
          have HT6 := Lib.hid hT6
          have HP6 := Lib.hid hp6
          have HT4'' := Lib.hid (HT4'.out.gr h15)
          have HGF := Lib.hid (HW.out.trans F15.out)
          have A15 := HA.out.gr (HV.out.trans F15.out)
          have B15 := HBK.out.gr (HV.out.trans F15.out)
          clear s0 s1 s2 hT6 hlT6 hmT6 hp6 h15 K6 HT4' hN6
          obtain ⟨s0, _⟩ := A15.at_ (k := 0) rfl
          obtain ⟨t0, _⟩ := B15.at_ (k := 0) rfl
          clear A15 B15
          by_cases z4 : e4 = 0
          · subst z4
            by_cases z5 : e5 = 0
            · subst z5
              by_cases z6 : e6 = 0
              · subst z6
                by_cases hab : a.addr = b.addr
                · have hb : (a.addr == b.addr) = true := beq_iff_eq.2 hab
                  clear hab
                  go_wp2_with fail
                  go_ret
                  exact ⟨rfl, HGF.out⟩
                · have hb : (a.addr == b.addr) = false := beq_eq_false_iff_ne.2 hab
                  obtain ⟨hsb, htT, h3⟩ := HS4.out.resolve_left (fun h => absurd h.2.2 (by decide))
                  obtain ⟨h464, hR4, _⟩ := h3.resolve_left (fun h => absurd h.2.2 (by decide))
                  obtain ⟨_, _, h5⟩ := HS5.out.resolve_left (fun h => absurd h.2.2 (by decide))
                  obtain ⟨_, hR5, _⟩ := h5.resolve_left (fun h => absurd h.2.2 (by decide))
                  obtain ⟨_, _, h6⟩ := HS6.out.resolve_left (fun h => absurd h.2.2 (by decide))
                  obtain ⟨_, hR6, _⟩ := h6.resolve_left (fun h => absurd h.2.2 (by decide))
                  have hsame : T4.map SV.pl = T6.map SV.pl := by
                    rw [HP4.out, hR4, HP6.out, hR6, setl_pl HTP.out b, setl_pl (HP5.out.trans hR5) a, setl_comm HTL.out.2 HSA.out hsb hab]
                  have hl4 : N4 ≤ 9223372036854775807 := by
                    have e1 := HT4''.out.1
                    have e2 := len_pl (HP4.out.trans hR4)
                    omega
                  have KS := Lib.hid (rSame_is (c := m4) (d := m6) HT4''.out HT6.out hl4 (v := true) ⟨fun _ => hsame, fun _ => rfl⟩)
                  clear hab hsb htT h3 hR4 h5 hR5 h6 hR6 hsame h464 hl4
                  go_wp2_with fail
                  with_reducible refine KS.out.mono ?_
                  rintro ee w16 ⟨rfl, h16⟩
                  have GF := Lib.hid (HGF.out.trans h16)
                  clear h16
                  go_wp2_with fail
                  go_ret
                  exact ⟨rfl, GF.out⟩
              · have hne : (e6 == 0) = false := beq_eq_false_iff_ne.2 z6
                have hnb : (e6 != 0) = true := by simp [bne, hne]
                clear z6 HS6
                go_wp2_with fail
                go_ret
                exact ⟨rfl, HGF.out⟩
            · have hne : (e5 == 0) = false := beq_eq_false_iff_ne.2 z5
              have hnb : (e5 != 0) = true := by simp [bne, hne]
              clear z5 HS5
              go_wp2_with fail
              go_ret
              exact ⟨rfl, HGF.out⟩
          · have hne : (e4 == 0) = false := beq_eq_false_iff_ne.2 z4
            have hnb : (e4 != 0) = true := by simp [bne, hne]
            clear z4 HS4
            go_wp2_with fail
            go_ret
            exact ⟨rfl, HGF.out⟩
    · have hne : (e1 == 0) = false := beq_eq_false_iff_ne.2 he1
      have hbn : (e1 != 0) = true := by simp [bne, hne]
      have hR0 : R1 = [] := by
        rcases hS1 with ⟨_, h, _⟩ | ⟨_, _, ⟨_, h, _⟩ | ⟨_, _, h⟩⟩
        · exact h
        · exact h
        · exact absurd h he1
      rw [hR0] at hpl
      have hT0 : T = [] := List.map_eq_nil_iff.1 hpl
      subst hT0
      clear hS1 hR0 hpl hT hlT hmT h2 CS he1
      simp only [List.length_nil]
      go_wp2_with fail
      with_reducible refine (CAL.out _).mono ?_
      rintro ee w3 ⟨rfl, h3⟩
      have G3 := Lib.hid (G2.out.trans h3)
      clear h3
      go_wp2_with fail
      go_ret
      exact ⟨rfl, G3.out⟩
set_option maxRecDepth 100000 in
theorem RootKeeps_lifted (os : Os) (started : os.Started) (H : Type) (enc : TypeId × Value → H) :
    ReturnsInHanded {} Try.checked os 4 .any (Rows.rootKeepsSpec.pre6 enc Try.prog Try.f4 Rows.rootKeepsRow.domain false) (Rows.rootKeepsSpec.post enc Try.prog Try.f4 false true false false) := by
  refine returnsInHanded_of_change (C := Try.checked) own started (by kernel_rfl) Try.func4
    (ChangeSpec.witness6 (enc := enc) (C := Try.checked) false ⟨#[], #[.slice none 0 0, .agg #[.int .i64 0, .int .i64 0, .slice none 0 0], .agg #[.int .i64 0, .int .i64 0, .slice none 0 0], .int .i64 0], []⟩ 8 (by kernel_rfl) (by kernel_rfl) (by kernel_rfl) (by kernel_rfl)) ?_
  intro W base args ds gs before hval0 hW hcnd _
  have hval : ∀ (j : Nat) t v, Try.f4.params[j]? = some t → args[j]? = some v → Value.okWide Try.prog W .any base t v := hval0
  have hW' := hW
  obtain ⟨p, q, hA0, hV, rfl, hfz, hnd⟩ := hW
  have hA : DataW.TrodAll enc Try.prog W 0 (fun _ => true) true Try.f4.params.toList args.toList ds p := hA0
  rw [Try.params4] at hA hval
  have hK := hA
  obtain ⟨v0, vs0, d0, ds0, p0, q0, hargs, rfl, hp, h0, r0⟩ := trodAll_cons hA
  obtain ⟨v1, vs1, d1, ds1, p1, q1, rfl, rfl, rfl, h1, r1⟩ := trodAll_cons r0
  obtain ⟨v2, vs2, d2, ds2, p2, q2, rfl, rfl, rfl, h2, r2⟩ := trodAll_cons r1
  obtain ⟨v3, vs3, d3, ds3, p3, q3, rfl, rfl, rfl, h3, r3⟩ := trodAll_cons r2
  obtain ⟨rfl, rfl, rfl⟩ := trodAll_nil r3
  obtain rfl : args = #[v0, v1, v2, v3] := by cases args; simp_all
  obtain ⟨rfl, rfl⟩ := trodVars_none hV
  obtain ⟨A0, n0, c0, l0, rfl, hc0, hn0, hm0⟩ := open_spots (hval 0 22 v0 rfl rfl) h0
  obtain ⟨x1, rfl, hx1⟩ := open_spot (hval 1 25 v1 rfl rfl) h1
  obtain ⟨x2, rfl, hx2⟩ := open_spot (hval 2 25 v2 rfl rfl) h2
  obtain ⟨a3, rfl, rfl, rfl, w3⟩ := open_int Try.underlying3 (hval 3 3 v3 rfl rfl) h3
  clear hA0 hval0
  refine (RootKeeps_walk W A0 n0 c0 l0 hc0 hn0 hm0 x1 hx1 x2 hx2 a3 (wfb w3)).mono fun e W' ⟨he, hg⟩ => ?_
  subst he
  exact ⟨_, rfl, post_below (pa := p) (pv := []) hW' (fun _ _ _ => (trodAll_cons_mk (shut_bool Try.underlying4 _) trodAll_mk0))
    (fun sp hs => trodAll_stays laidOut hg sp (by kernel_rfl) hK (fun x hx => hW'.lt x (List.mem_append_left _ hx)) (fun x hx => hs x (List.mem_append_left _ hx))) (fun _ _ => rfl) rfl
    hg (ok_one (by kernel_rfl) rfl (okWide_bool_mk Try.underlying4 _))⟩

theorem RootKeeps_over : Rows.rootKeepsRow.holds Try.pinned (OpenSpec.ofChange Rows.rootKeepsSpec) :=
  OpenClaim.holds_of_wide 4 Try.f4 rfl rfl rfl rfl rfl rfl rfl ⟨rfl, rfl, rfl, rfl, rfl⟩ rfl rfl rfl rfl rfl (by kernel_rfl) Try.func4 (by kernel_rfl)
    (of_decide_eq_true (by kernel_rfl)) (by unfold Func.isWrapper; first | (rw [if_pos (by decide +kernel)]; kernel_rfl) | (rw [if_neg (by decide +kernel)]; exact ⟨rfl, rfl⟩))
    (fun os started H enc _ => RootKeeps_lifted os started H enc)

/-- The statement. -/
theorem RootKeeps_holds : Rows.RootKeepsSaid :=
  RootKeeps_over
#print axioms RootKeeps_holds
end Go.Proofs.Ytdioecicakpfdaa
