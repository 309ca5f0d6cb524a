/-
  ScriptTells, for every input: the pick of any number, which picks may be, any one's number, and all picks of any numbers, with their time and anybody's share, are as the document says, or refused. No condition.
-/
import Derived.Test.YtclhdpmlmbicjaaScriptRef
import Derived.Test.YtclhdpmlmbicjaaEnds
import Derived.Deep.RegionHeld3
import Derived.Deep.DeepCutAuto
namespace Go.Proofs.Ytclhdpmlmbicjaa
open Go.ChangeShapes Go.WideShapes Go.ChangeAt Go.RowKit P13
set_option linter.unusedVariables false
set_option linter.unusedSimpArgs false

theorem run_pick_neq (p : Pk) (w : World) : (binOp .neq 23 (.agg #[.int .i64 p.1, .int .i64 p.2]) (.agg #[.int .i64 p.1, .int .i64 p.2])).run Try.prog w = .ok (.bool false) w := by
  obtain ⟨a, b⟩ := p
  go_simp

set_option maxRecDepth 100000 in
set_option maxHeartbeats 8000000 in
theorem ScriptTells_walk (w : World) (v : Int) (hv : B64 v) (p : Pk) (hp : Inb p.1 ∧ Inb p.2) (A : Option Addr) (n0 c : Nat) (L0 : List Int) (hc : n0 ≤ c) (hn : n0 ≤ 9223372036854775807) (hm0 : IMem w A n0 L0) (who : Int) (hw : B64 who) :
    Calls Try.prog 3 #[.int .i64 v, .agg #[.int .i64 p.1, .int .i64 p.2], .slice A n0 c, .int .i64 who] w fun e w' => e = .returned (.bool true) ∧ Gr w w' := by
  obtain ⟨n, hmn⟩ : ∃ n, (200 < n0 ∧ n = 200) ∨ (n0 ≤ 200 ∧ n = n0) := by
    by_cases h : 200 < n0
    · exact ⟨200, .inl ⟨h, rfl⟩⟩
    · exact ⟨n0, .inr ⟨by omega, rfl⟩⟩
  have n200 : n ≤ 200 := by omega
  have hm := hm0.take_ n (by omega)
  have CF := fun w => Lib.hid (few_ok A n0 c n hc hn hmn w)
  obtain ⟨L, hL⟩ : ∃ L, L0.take n = L := ⟨_, rfl⟩
  rw [hL] at hm
  have hlen := hm.1
  obtain ⟨N, E, hNE⟩ := WrR.any p
  obtain ⟨T, F, hTF⟩ := TimeR.any L
  obtain ⟨q, hq⟩ : ∃ q, rd v = q := ⟨_, rfl⟩
  obtain ⟨ok, hok⟩ : ∃ ok : Bool, ok = true ↔ okP p := ⟨decide (okP p), by simp⟩
  obtain ⟨S, hS⟩ : ∃ S : Int, ((cnt who L : Nat) : Int) = S := ⟨_, rfl⟩
  have CWr := fun W => Lib.hid (Write_is hNE W)
  have CRd := fun W => Lib.hid (Read_is v W)
  have CrRd := fun W => Lib.hid (rRead_is v W)
  rw [hq] at CRd CrRd
  have hneq := fun W => run_pick_neq q W
  have CRi := fun W => Lib.hid (Right_is p ok hok W)
  have CrRi := fun W => Lib.hid (rRight_is p ok hok W)
  have CAl := fun W (h : IMem W A n L) => Lib.hid (All_is (c := c) h (by omega))
  have CTi := fun W (h : IMem W A n L) => Lib.hid (Time_is (c := c) h (by omega) hTF)
  have CSh := fun W (h : IMem W A n L) => Lib.hid (Share_is (c := c) h (by omega) who)
  have CrSh := fun W (h : IMem W A n L) => Lib.hid (rShare_is (c := c) h (by omega) who)
  rw [hS] at CSh CrSh
  have CrTi := fun W (h : IMem W A n L) r v hr => Lib.hid (rTime_is (c := c) h (by omega) (r := r) (v := v) hr)
  have Cal := fun W => Lib.hid (alive_ok W)
  have B5 := Blk.new w #[.int .i64 p.1, .int .i64 p.2] 23
  have HM := Lib.hid hm
  have HLEN := Lib.hid hlen
  have HNE := Lib.hid hNE
  have HTF := Lib.hid hTF
  have HOK := Lib.hid hok
  have g0 := (Gr.refl w).al (.cells #[.int .i64 p.1, .int .i64 p.2] 23)
  have HB := Lib.hid B5
  have HG := Lib.hid g0
  clear hm0 hc hn hmn hL hm hlen hNE hTF hok hS hq hp hv hw g0 B5
  have HML := Lib.hid (HM.out.gr HG.out)
  clear HM
  go_enter Try.func3, Try.ntmps3
  go_wp2_with fail
  with_reducible refine (CF _).out.mono ?_
  rintro e w1 ⟨rfl, rfl⟩
  clear CF
  go_wp2_with fail
  with_reducible refine (CWr _).out.mono ?_
  rintro e w2 ⟨rfl, g⟩
  replace HB := Lib.hid (HB.out.gr g)
  replace HG := Lib.hid (HG.out.trans g)
  replace HML := Lib.hid (HML.out.gr g)
  clear g CWr
  go_wp2_with fail
  with_reducible refine (CAl _ HML.out).out.mono ?_
  rintro e w3 ⟨⟨B, d, rfl, hd1, hd2, hB, -⟩, g⟩
  replace HB := Lib.hid (HB.out.gr g)
  replace HG := Lib.hid (HG.out.trans g)
  replace HML := Lib.hid (HML.out.gr g)
  have HBM := Lib.hid hB
  clear g CAl hB
  go_wp2_with fail
  with_reducible refine (CTi _ HML.out).out.mono ?_
  rintro e w4 ⟨rfl, g⟩
  replace HB := Lib.hid (HB.out.gr g)
  replace HG := Lib.hid (HG.out.trans g)
  replace HML := Lib.hid (HML.out.gr g)
  replace HBM := Lib.hid (HBM.out.gr g)
  clear g CTi
  go_upto_region 5 with fail
  have b0 := (HB.out.at_ (k := 0) rfl).1
  have b1 := (HB.out.at_ (k := 1) rfl).1
  have bl := HB.out.lt
  go_region_held3 (fun W => W.cell? ⟨w.heap.size, 0, none⟩ = some (.int .i64 p.1) ∧ W.cell? ⟨w.heap.size, 1, none⟩ = some (.int .i64 p.2) ∧ w.heap.size < W.heap.size ∧ Gr w4 W)
    (first | exact ⟨b0, b1, bl, (Gr.refl w4).dr⟩ | assumption | (go_split_ands; exact ⟨(hb.cell (p := ⟨w.heap.size, 0, none⟩) (by assumption)).trans (by assumption), (hb.cell (p := ⟨w.heap.size, 1, none⟩) (by assumption)).trans (by assumption), Nat.lt_of_lt_of_le (by assumption) hb.size, Gr.trans (by assumption) hb⟩))
    (first
      | (go_at_call 9; (with_reducible refine (CRd _).out.mono ?_); rintro ee w9 ⟨rfl, hb⟩)
      | (go_at_call 10; (with_reducible refine (CrRd _).out.mono ?_); rintro ee w9 ⟨rfl, hb⟩)
      | (go_at_call 11; (with_reducible refine (CRi _).out.mono ?_); rintro ee w9 ⟨rfl, hb⟩)
      | (go_at_call 12; (with_reducible refine (CrRi _).out.mono ?_); rintro ee w9 ⟨rfl, hb⟩)
      | (go_at_call 13; (with_reducible refine (CSh _ (HML.out.gr (by go_split_ands; assumption))).out.mono ?_); rintro ee w9 ⟨rfl, hb⟩)
      | (go_at_call 14; (with_reducible refine (CrSh _ (HML.out.gr (by go_split_ands; assumption))).out.mono ?_); rintro ee w9 ⟨rfl, hb⟩)
      | (go_at_call 15; (with_reducible refine (Cal _).out.mono ?_); rintro ee w9 ⟨rfl, hb⟩))
  rename_i hH
  have G5 := hH.2.2.2
  replace HB := Lib.hid (HB.out.gr G5)
  replace HG := Lib.hid (HG.out.trans G5)
  replace HML := Lib.hid (HML.out.gr G5)
  replace HBM := Lib.hid (HBM.out.gr G5)
  clear hH G5 b0 b1 bl CRd CrRd CRi hneq CSh CrSh Cal
  generalize w9 = w5 at *
  go_wp2_with fail
  go_loopw [66] (fun i wr => ∃ k : Nat, k ≤ n ∧ i = .int .i64 (k : Int) ∧ Hid (Gr w5 wr)) (fun i _ => n - (intOf i).toNat)
  case atStart => exact ⟨0, Nat.zero_le _, rfl, Lib.hid (Gr.refl _)⟩
  case round =>
    obtain ⟨k, hk, rfl, HGR⟩ := hrel
    by_cases hlt : k < n
    · obtain ⟨b, off, x, rfl, hbl, hx, hxb, d0⟩ := (HML.out.gr HGR.out).at_ hlt
      obtain ⟨b2, off2, y, e2, hbl2, hy, -, -, r0, r1⟩ := (HBM.out.gr HGR.out).at_ hlt
      rw [List.getElem?_map, hx] at hy
      have hy : rd x = y := Option.some.inj hy
      have CR := fun W => Lib.hid (rRead_is x W)
      rw [hy] at CR
      have hneq := fun W => run_pick_neq y W
      cases e2
      have k0 : (0 : Int) ≤ (k : Int) := by omega
      have k1 : (k : Int) < (n : Int) := by omega
      clear hx hy hxb CrRi CrTi
      go_upto_region 10 with fail
      go_region_held3 (fun W => W.cell? ⟨b2, off2 + k * 2, none⟩ = some (.int .i64 y.1) ∧ W.cell? ⟨b2, off2 + k * 2 + 1, none⟩ = some (.int .i64 y.2) ∧ b2 < W.heap.size ∧ Gr wr W)
        (first | exact ⟨r0, r1, hbl2, (Gr.refl wr).dr⟩ | assumption | (go_split_ands; exact ⟨(hb.cell (p := ⟨b2, off2 + k * 2, none⟩) (by assumption)).trans (by assumption), (hb.cell (p := ⟨b2, off2 + k * 2 + 1, none⟩) (by assumption)).trans (by assumption), Nat.lt_of_lt_of_le (by assumption) hb.size, Gr.trans (by assumption) hb⟩))
        (first
          | (go_at_call 10; (with_reducible refine (CR _).out.mono ?_); rintro ee w9 ⟨rfl, hb⟩))
      all_goals (
        rename_i hH
        have HG9 := Lib.hid (HGR.out.trans hH.2.2.2)
        clear hH r0 r1 d0 CR hneq
        go_wp2_with fail
        go_roundw
        case rel => exact ⟨k + 1, by omega, by go_num, HG9⟩
        case measure => simp [intOf]; omega)
    · obtain rfl : k = n := by omega
      replace HB := Lib.hid (HB.out.gr HGR.out)
      replace HML := Lib.hid (HML.out.gr HGR.out)
      replace HG := Lib.hid (HG.out.trans HGR.out)
      have b0 := (HB.out.at_ (k := 0) rfl).1
      have b1 := (HB.out.at_ (k := 1) rfl).1
      have bl := HB.out.lt
      obtain ⟨T2, V2, hr2, hT2⟩ : ∃ T2 V2, ((tot L ≤ 4611686018427387904 ∧ T2 = tot L ∧ V2 = true) ∨ (4611686018427387904 < tot L ∧ T2 = 0 ∧ V2 = false)) ∧ ((V2 = true ∧ F = 0 ∧ T = T2) ∨ (V2 = false ∧ F = 10 ∧ T = 0)) := by
        rcases HTF.out with ⟨h, h2, h3⟩ | ⟨h, h2, h3⟩
        · exact ⟨tot L, true, .inl ⟨h, rfl, rfl⟩, .inl ⟨rfl, h3, h2⟩⟩
        · exact ⟨0, false, .inr ⟨h, rfl, rfl⟩, .inr ⟨rfl, h3, h2⟩⟩
      have CT := fun W h => CrTi W h T2 V2 hr2
      have HT2 := Lib.hid hT2
      clear HBM HGR CrTi hT2 hr2
      cases ok with
      | true =>
        have hokp := HOK.out.1 rfl
        obtain ⟨rfl, rfl⟩ : N = nm p ∧ E = 0 := by
          rcases HNE.out with ⟨_, h⟩ | ⟨h, _⟩
          · exact h
          · exact absurd hokp h
        have CW := fun W => Lib.hid (rWrite_is hokp W)
        clear hokp
        go_wp2_with fail
        with_reducible refine (CrRi _).out.mono ?_
        rintro ee w6 ⟨rfl, g⟩
        replace HB := Lib.hid (HB.out.gr g)
        replace HG := Lib.hid (HG.out.trans g)
        replace HML := Lib.hid (HML.out.gr g)
        clear b0 b1 bl g CrRi
        have b0 := (HB.out.at_ (k := 0) rfl).1
        have b1 := (HB.out.at_ (k := 1) rfl).1
        have bl := HB.out.lt
        go_wp2_with fail
        with_reducible refine (CW _).out.mono ?_
        rintro ee w7 ⟨rfl, g⟩
        replace HG := Lib.hid (HG.out.trans g)
        replace HML := Lib.hid (HML.out.gr g)
        clear b0 b1 bl g CW HB
        go_wp2_with fail
        with_reducible refine (CT _ HML.out).out.mono ?_
        rintro ee w8 ⟨rfl, g⟩
        replace HG := Lib.hid (HG.out.trans g)
        clear g CT HML
        rcases HT2.out with ⟨rfl, rfl, rfl⟩ | ⟨rfl, rfl, rfl⟩
        · go_wp2_with fail
          go_ret
          exact ⟨rfl, HG.out⟩
        · go_wp2_with fail
          go_ret
          exact ⟨rfl, HG.out⟩
      | false =>
        obtain ⟨rfl, rfl⟩ : N = 0 ∧ E = 1 := by
          rcases HNE.out with ⟨h, _⟩ | ⟨_, h⟩
          · exact absurd (HOK.out.2 h) (by simp)
          · exact h
        go_wp2_with fail
        with_reducible refine (CrRi _).out.mono ?_
        rintro ee w6 ⟨rfl, g⟩
        replace HG := Lib.hid (HG.out.trans g)
        replace HML := Lib.hid (HML.out.gr g)
        clear b0 b1 bl g CrRi HB
        go_wp2_with fail
        with_reducible refine (CT _ HML.out).out.mono ?_
        rintro ee w8 ⟨rfl, g⟩
        replace HG := Lib.hid (HG.out.trans g)
        clear g CT HML
        rcases HT2.out with ⟨rfl, rfl, rfl⟩ | ⟨rfl, rfl, rfl⟩
        · go_wp2_with fail
          go_ret
          exact ⟨rfl, HG.out⟩
        · go_wp2_with fail
          go_ret
          exact ⟨rfl, HG.out⟩
set_option maxRecDepth 100000 in
theorem ScriptTells_lifted (os : Os) (started : os.Started) (H : Type) (enc : TypeId × Value → H) :
    ReturnsInHanded {} Try.checked os 3 .any (Rows.scriptTellsSpec.pre6 enc Try.prog Try.f3 Rows.scriptTellsRow.domain false) (Rows.scriptTellsSpec.post enc Try.prog Try.f3 false true false false) := by
  refine returnsInHanded_of_change (C := Try.checked) own started (by kernel_rfl) Try.func3
    (ChangeSpec.witness6 (enc := enc) (C := Try.checked) false ⟨#[], #[.int .i64 0, .agg #[.int .i64 0, .int .i64 0], .slice none 0 0, .int .i64 0], []⟩ 8 (by kernel_rfl) (by kernel_rfl) (by kernel_rfl) (by kernel_rfl)) ?_
  intro W base args ds gs before hval0 hW hcnd _
  have hval : ∀ (j : Nat) t v, Try.f3.params[j]? = some t → args[j]? = some v → Value.okWide Try.prog W .any base t v := hval0
  have hW' := hW
  obtain ⟨p, q, hA0, hV, rfl, hfz, hnd⟩ := hW
  have hA : DataW.TrodAll enc Try.prog W 0 (fun _ => true) true Try.f3.params.toList args.toList ds p := hA0
  rw [Try.params3] at hA hval
  have hK := hA
  obtain ⟨v0, vs0, d0, ds0, p0, q0, hargs, rfl, hp, h0, r0⟩ := trodAll_cons hA
  obtain ⟨v1, vs1, d1, ds1, p1, q1, rfl, rfl, rfl, h1, r1⟩ := trodAll_cons r0
  obtain ⟨v2, vs2, d2, ds2, p2, q2, rfl, rfl, rfl, h2, r2⟩ := trodAll_cons r1
  obtain ⟨v3, vs3, d3, ds3, p3, q3, rfl, rfl, rfl, h3, r3⟩ := trodAll_cons r2
  obtain ⟨rfl, rfl, rfl⟩ := trodAll_nil r3
  obtain rfl : args = #[v0, v1, v2, v3] := by cases args; simp_all
  obtain ⟨rfl, rfl⟩ := trodVars_none hV
  obtain ⟨a0, rfl, rfl, rfl, w0⟩ := open_int Try.underlying3 (hval 0 3 v0 rfl rfl) h0
  obtain ⟨p1, rfl, hp1⟩ := P13.open_pick (hval 1 23 v1 rfl rfl) h1
  obtain ⟨A2, n2, c2, l2, rfl, hc2, hn2, hm2⟩ := open_ints (hval 2 24 v2 rfl rfl) h2
  obtain ⟨a3, rfl, rfl, rfl, w3⟩ := open_int Try.underlying3 (hval 3 3 v3 rfl rfl) h3
  clear hA0 hval0
  refine (ScriptTells_walk W a0 (wfb w0) p1 hp1 A2 n2 c2 l2 hc2 hn2 hm2 a3 (wfb w3)).mono fun e W' ⟨he, hg⟩ => ?_
  subst he
  exact ⟨_, rfl, post_below (pa := p) (pv := []) hW' (fun _ _ _ => (trodAll_cons_mk (shut_bool Try.underlying4 _) trodAll_mk0))
    (fun sp hs => trodAll_stays laidOut hg sp (by kernel_rfl) hK (fun x hx => hW'.lt x (List.mem_append_left _ hx)) (fun x hx => hs x (List.mem_append_left _ hx))) (fun _ _ => rfl) rfl
    hg (ok_one (by kernel_rfl) rfl (okWide_bool_mk Try.underlying4 _))⟩

theorem ScriptTells_over : Rows.scriptTellsRow.holds Try.pinned (OpenSpec.ofChange Rows.scriptTellsSpec) :=
  OpenClaim.holds_of_wide 3 Try.f3 rfl rfl rfl rfl rfl rfl rfl ⟨rfl, rfl, rfl, rfl, rfl⟩ rfl rfl rfl rfl rfl (by kernel_rfl) Try.func3 (by kernel_rfl)
    (of_decide_eq_true (by kernel_rfl)) (by unfold Func.isWrapper; first | (rw [if_pos (by decide +kernel)]; kernel_rfl) | (rw [if_neg (by decide +kernel)]; exact ⟨rfl, rfl⟩))
    (fun os started H enc _ => ScriptTells_lifted os started H enc)

/-- The statement. -/
theorem ScriptTells_holds : Rows.ScriptTellsSaid :=
  ScriptTells_over
#print axioms ScriptTells_holds
end Go.Proofs.Ytclhdpmlmbicjaa
