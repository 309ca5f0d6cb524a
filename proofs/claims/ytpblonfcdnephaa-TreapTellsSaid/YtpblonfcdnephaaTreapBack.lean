/-
  The law TreapBack.
-/
import Derived.Test.YtpblonfcdnephaaTreapAlive
import Derived.Test.YtpblonfcdnephaaTreapDel
import Derived.Test.YtpblonfcdnephaaTreapKeys
import Derived.Test.YtpblonfcdnephaaEnds
namespace Go.Proofs.Ytpblonfcdnephaa
open Go.ChangeShapes Go.WideShapes Go.ChangeAt Go.RowKit
set_option linter.unusedVariables false
set_option linter.unusedSimpArgs false

theorem few_at (n : Nat) : ∃ m, ((70 < n ∧ m = 70) ∨ (n ≤ 70 ∧ m = n)) ∧ m ≤ n := by
  by_cases h : 70 < n
  · exact ⟨70, .inl ⟨h, rfl⟩, by omega⟩
  · exact ⟨n, .inr ⟨by omega, rfl⟩, Nat.le_refl _⟩
/-- The tree as the law has it: cut, in a variable at s. -/
structure Cut (w W : World) (r : Int) (A : Option Addr) (m c : Nat) (l : List Nd) : Prop where
  gr : Gr w W
  b0 : Blk W w.heap.size #[.int .i64 r, .slice A m c] 24
  mem : NMem W A m l
theorem Cut.gr' {w W W' : World} {r : Int} {A : Option Addr} {m c : Nat} {l : List Nd} (h : Cut w W r A m c l) (g : Gr W W') : Cut w W' r A m c l := ⟨h.gr.trans g, h.b0.gr g, h.mem.gr g⟩
theorem cut_new {w w1 : World} {r : Int} {A : Option Addr} {n m c : Nat} {l : List Nd} (hm : NMem w A n l) (hmn : m ≤ n) (g : Gr (w.alloc (.cells #[.int .i64 r, .slice A n c] 24)) w1) :
    Cut w ((w1.setCell ⟨w.heap.size, 0, none⟩ (.int .i64 r)).setCell ⟨w.heap.size, 1, none⟩ (.slice A m c)) r A m c (l.take m) := by
  have gg := (((Gr.refl w).al _).trans g).st (p := ⟨w.heap.size, 0, none⟩) (Nat.le_refl _) (.int .i64 r) |>.st (p := ⟨w.heap.size, 1, none⟩) (Nat.le_refl _) (.slice A m c)
  have b := (((Blk.new w #[.int .i64 r, .slice A n c] 24).gr g).set 0 (.int .i64 r)).set 1 (.slice A m c)
  exact ⟨gg, by simpa using b, (hm.gr gg).take_ m hmn⟩

section
set_option maxRecDepth 100000 in
set_option maxHeartbeats 8000000 in
theorem TreapBack_walk (w : World) (r : Int) (A : Option Addr) (n c : Nat) (l : List Nd) (hr : B64 r) (hc : n ≤ c) (hn : c ≤ 9223372036854775807) (hm : NMem w A n l) (x : Int) (hx : B64 x) :
    Calls Try.prog 7 #[.agg #[.int .i64 r, .slice A n c], .int .i64 x] w fun e w' => e = .returned (.bool true) ∧ Gr w w' := by
  obtain ⟨m, hmn, hmle⟩ := few_at n
  have c1 := Lib.hid (few_ok r A n c m hc hn hmn (w.alloc (.cells #[.int .i64 r, .slice A n c] 24)))
  have hal := fun W => alive_ok W
  have kal := Lib.hid hal
  have hem := fun W => empty_ok W
  have kem := Lib.hid hem
  have HM := Lib.hid hm
  have BB := Blk.new w #[.int .i64 r, .slice A n c] 24
  clear hal hem hm hmn
  go_enter Try.func7, Try.ntmps7
  go_wp2_with fail
  with_reducible refine c1.out.mono ?_
  rintro e w1 ⟨rfl, hb1⟩
  have HC0 := Lib.hid (cut_new HM.out hmle hb1)
  obtain ⟨p0, z0⟩ := (BB.gr hb1).at_ (k := 0) rfl
  obtain ⟨p1, z1⟩ := (BB.gr hb1).at_ (k := 1) rfl
  clear c1 hb1 BB
  by_cases hok : IsKey x ∧ ∃ t, Good (l.take m) r t ∧ x ∉ t.inord ∧ (l.take m).length ≠ 64
  · obtain ⟨hxk, t, hg, hxt, h64⟩ := hok
    have kP := Lib.hid (Put_ok (c := c) HC0.out.mem hg hxk hxt h64)
    have HG := Lib.hid hg
    have HX := Lib.hid (And.intro hxk hxt)
    clear hg hxk hxt h64
    go_wp2_with fail
    have f0 := (HC0.out.b0.at_ (k := 0) rfl).1
    have f1 := (HC0.out.b0.at_ (k := 1) rfl).1
    clear p0 p1 z0 z1
    generalize (w1.setCell _ _).setCell _ _ = W0 at *
    go_wp2_with fail
    with_reducible refine kP.out.mono ?_
    rintro e w2 ⟨r1, g1, l1, t1, rfl, hm1, hg1, hk1, hb2, _⟩
    have x1 : x ∈ t1.inord := (hk1 x).2 (.inl rfl)
    have gA := (Gr.refl w2).al (.cells #[.int .i64 r1, .slice (some ⟨g1, 0, none⟩) (m + 1) (m + 1)] 24)
    have kD := Lib.hid (Del_ok (c := m + 1) (hm1.gr gA) hg1 x1)
    have HC2 := Lib.hid ((HC0.out.gr' hb2).gr' gA)
    have HM1 := Lib.hid (hm1.gr gA)
    have HG1 := Lib.hid hg1
    have HK1 := Lib.hid hk1
    have BA := Blk.new w2 #[.int .i64 r1, .slice (some ⟨g1, 0, none⟩) (m + 1) (m + 1)] 24
    clear hm1 hg1 hk1 hb2 gA x1 kP HC0 f0 f1
    go_wp2_with fail
    with_reducible refine kD.out.mono ?_
    rintro e w3 ⟨mm, r2, g2, l2, t2, rfl, hm2, hg2, hk2, hb3, _⟩
    have gB := (Gr.refl w3).al (.cells #[.int .i64 r2, .slice (some ⟨g2, 0, none⟩) mm mm] 24)
    have h22 : t2.inord = t.inord := rising_ext hg2.2.2.2.1.rising HG.out.2.2.2.1.rising fun y => by
      rw [hk2 y, HK1.out y]
      constructor
      · rintro ⟨h1, h2 | h2⟩
        · exact absurd h2 h1
        · exact h2
      · intro h
        refine ⟨fun e => HX.out.2 (e ▸ h), .inr h⟩
    have HC3 := Lib.hid ((HC2.out.gr' hb3).gr' gB)
    have HMA := Lib.hid ((HM1.out.gr hb3).gr gB)
    have HMB := Lib.hid (hm2.gr gB)
    have HG2 := Lib.hid hg2
    have H22 := Lib.hid h22
    have HBA := Lib.hid ((BA.gr hb3).gr gB)
    have HBB := Lib.hid (Blk.new w3 #[.int .i64 r2, .slice (some ⟨g2, 0, none⟩) mm mm] 24)
    have f0 := (HC3.out.b0.at_ (k := 0) rfl).1
    have f1 := (HC3.out.b0.at_ (k := 1) rfl).1
    have kK := Lib.hid (Keys_is (c := c) HC3.out.mem (r := r) (.inr ⟨t, HG.out, rfl, rfl⟩))
    have hlk : t.inord.length = m := by rw [T.inord_len, HG.out.2.1, HC3.out.mem.1]
    rw [hlk] at kK
    clear hm2 hg2 hk2 hb3 gB h22 kD HC2 HM1 BA
    go_wp2_with fail
    with_reducible refine kK.out.mono ?_
    rintro e w4 ⟨C4, k4, rfl, own4, hb4⟩
    have f2 := ((HBB.out.gr hb4).at_ (k := 0) rfl).1
    have f3 := ((HBB.out.gr hb4).at_ (k := 1) rfl).1
    have kK2 := Lib.hid (Keys_is (c := mm) (HMB.out.gr hb4) (r := r2) (R := t2.inord) (e := 0) (.inr ⟨t2, HG2.out, rfl, rfl⟩))
    rw [H22.out, hlk] at kK2
    have K4 := Lib.hid own4.mem
    have HB4 := Lib.hid hb4
    clear own4 hb4 kK f0 f1
    go_wp2_with fail
    with_reducible refine kK2.out.mono ?_
    rintro e w5 ⟨C5, k5, rfl, own5, hb5⟩
    have kS := Lib.hid (rSame_is (c := k4) (d := k5) (K4.out.gr hb5) own5.mem (by have := own5.le; have := own5.max; unfold maxLen at this; omega) (by have := own5.le; have := own5.max; unfold maxLen at this; omega) (v := true) ⟨fun _ => rfl, fun _ => rfl⟩)
    have HB5 := Lib.hid (HB4.out.trans hb5)
    have K5 := Lib.hid (K4.out.gr hb5)
    clear own5 hb5 kK2 f2 f3 HB4 K4
    go_wp2_with fail
    with_reducible refine kS.out.mono ?_
    rintro e w6 ⟨rfl, hb6⟩
    go_wp2_with fail
    with_reducible refine (kal.out _).mono ?_
    rintro e w7 ⟨rfl, hb7⟩
    have HB7 := Lib.hid ((HB5.out.trans hb6).trans hb7)
    have K7 := Lib.hid ((K5.out.gr hb6).gr hb7)
    clear hb6 hb7 kS HB5 K5 kal kem
    go_wp2_with fail
    go_loopw [74] (fun i wr => ∃ (k : Nat), k ≤ m ∧ i = .int .i64 (k : Int) ∧ Hid (Gr w7 wr)) (fun i _ => m - (intOf i).toNat)
    case atStart => exact ⟨0, Nat.zero_le _, rfl, Lib.hid (Gr.refl _)⟩
    case round =>
      obtain ⟨k, hk, rfl, HR⟩ := hrel
      by_cases hlt : k < m
      · obtain ⟨bb, off, y, rfl, hbl, hy, hiy, cy⟩ := (K7.out.gr HR.out).at_ hlt
        have hyt := List.mem_of_getElem? hy
        have hyk := HG.out.isKey hyt
        have hy1 : y ∈ t1.inord := (HK1.out y).2 (.inr hyt)
        obtain ⟨d0, hd0⟩ : ∃ d0 : Int, (dpt t y : Int) = d0 := ⟨_, rfl⟩
        obtain ⟨d1, hd1⟩ : ∃ d1 : Int, (dpt t1 y : Int) = d1 := ⟨_, rfl⟩
        have hd2 : (dpt t2 y : Int) = d0 := by
          rw [← hd0, HG2.out.depth HG.out H22.out (by rw [H22.out]; exact hyt)]
        have hd01 : pri x < pri y → d0 = d1 := fun hp => by
          rw [← hd0, ← hd1, dpt_dep HG.out.2.2.2.1 HG.out.2.2.2.2 hyt, dpt_dep HG1.out.2.2.2.1 HG1.out.2.2.2.2 hy1,
            dep_more (fun z hz => HG1.out.isKey hz) HG1.out.2.2.2.1.rising HG.out.2.2.2.1.rising HK1.out HX.out.2 hyt hp]
        have gB := HB7.out.trans HR.out
        have kF0 := Lib.hid (Find_is (c := c) (HC3.out.mem.gr gB) (x := y) (r := r) (.inr (.inr ⟨hyk, t, HG.out, .inr ⟨hyt, hd0.symm, rfl⟩⟩)))
        have kF1 := Lib.hid (fun W g => Find_is (c := m + 1) (HMA.out.gr (w' := W) g) (x := y) (r := r1) (.inr (.inr ⟨hyk, t1, HG1.out, .inr ⟨hy1, hd1.symm, rfl⟩⟩)))
        have kF2 := Lib.hid (fun W g => Find_is (c := mm) (HMB.out.gr (w' := W) g) (x := y) (r := r2) (.inr (.inr ⟨hyk, t2, HG2.out, .inr ⟨by rw [H22.out]; exact hyt, hd2.symm, rfl⟩⟩)))
        have f0 := ((HC3.out.gr' gB).b0.at_ (k := 0) rfl).1
        have f1 := ((HC3.out.gr' gB).b0.at_ (k := 1) rfl).1
        have HGB := Lib.hid gB
        have hPy := fun W => Pri_is y W
        have hPx := fun W => Pri_is x W
        rw [prf_key hyk] at hPy
        rw [prf_key HX.out.1] at hPx
        generalize pri y = py at *
        generalize pri x = px at *
        have kPy := Lib.hid hPy
        have kPx := Lib.hid hPx
        have HD01 := Lib.hid hd01
        clear hy hyt hyk hy1 hd0 hd1 hd2 hd01 gB hPy hPx hbl
        go_wp2_with fail
        with_reducible refine kF0.out.mono ?_
        rintro e w8 ⟨rfl, hb8⟩
        have G8 := Lib.hid (HGB.out.trans hb8)
        have R8 := Lib.hid (HR.out.trans hb8)
        have f2 := ((HBA.out.gr G8.out).at_ (k := 0) rfl).1
        have f3 := ((HBA.out.gr G8.out).at_ (k := 1) rfl).1
        clear f0 f1 hb8 kF0
        go_wp2_with fail
        with_reducible refine (kF1.out _ G8.out).mono ?_
        rintro e w9 ⟨rfl, hb9⟩
        have G9 := Lib.hid (G8.out.trans hb9)
        have R9 := Lib.hid (R8.out.trans hb9)
        have f0 := ((HBB.out.gr G9.out).at_ (k := 0) rfl).1
        have f1 := ((HBB.out.gr G9.out).at_ (k := 1) rfl).1
        clear f2 f3 hb9 kF1
        go_wp2_with fail
        with_reducible refine (kF2.out _ G9.out).mono ?_
        rintro e w10 ⟨rfl, hb10⟩
        have G10 := Lib.hid ((G9.out.trans hb10))
        have HRN := Lib.hid (R9.out.trans hb10)
        clear f0 f1 hb10 kF2
        by_cases hp : px < py
        · obtain rfl := HD01.out hp
          go_wp2_with fail
          with_reducible refine (kPy.out _).mono ?_
          rintro e w11 ⟨rfl, rfl⟩
          go_wp2_with fail
          with_reducible refine (kPx.out _).mono ?_
          rintro e w11 ⟨rfl, rfl⟩
          go_wp2_with fail
          go_roundw
          case rel => exact ⟨k + 1, by omega, by go_num, HRN⟩
          case measure => simp [intOf]; omega
        · clear HD01
          go_wp2_with fail
          with_reducible refine (kPy.out _).mono ?_
          rintro e w11 ⟨rfl, rfl⟩
          go_wp2_with fail
          with_reducible refine (kPx.out _).mono ?_
          rintro e w11 ⟨rfl, rfl⟩
          go_wp2_with fail
          go_roundw
          case rel => exact ⟨k + 1, by omega, by go_num, HRN⟩
          case measure => simp [intOf]; omega
      · obtain rfl : k = m := by omega
        have GE := Lib.hid (((HC3.out.gr).trans HB7.out).trans HR.out)
        go_wp2_with fail
        go_ret
        exact ⟨rfl, GE.out⟩
  · have hE : ∃ e, PutE (l.take m) r x e ∧ (e = 1 ∨ e = 7 ∨ e = 5) := by
      by_cases hk : IsKey x
      · by_cases hgd : ∃ t, Good (l.take m) r t
        · obtain ⟨t, hg⟩ := hgd
          by_cases hin : x ∈ t.inord
          · exact ⟨7, .inr ⟨hk, t, hg, .inl ⟨hin, rfl⟩⟩, by omega⟩
          · refine ⟨5, .inr ⟨hk, t, hg, .inr ⟨hin, ?_, rfl⟩⟩, by omega⟩
            exact Classical.byContradiction fun h => hok ⟨hk, t, hg, hin, h⟩
        · exact ⟨1, .inl ⟨.inr hgd, rfl⟩, by omega⟩
      · exact ⟨1, .inl ⟨.inl hk, rfl⟩, by omega⟩
    obtain ⟨e, hE, he⟩ := hE
    have kP := Lib.hid (Put_no (c := c) HC0.out.mem hE)
    have he0 : (e == 0) = false := beq_eq_false_iff_ne.2 (by omega)
    clear hE hok he
    go_wp2_with fail
    have f0 := (HC0.out.b0.at_ (k := 0) rfl).1
    have f1 := (HC0.out.b0.at_ (k := 1) rfl).1
    clear p0 p1 z0 z1
    generalize (w1.setCell _ _).setCell _ _ = W0 at *
    go_wp2_with fail
    with_reducible refine kP.out.mono ?_
    rintro ee w2 ⟨rfl, hb2⟩
    have BA := Blk.new w2 #[.int .i64 0, .slice none 0 0] 24
    have G2 := Lib.hid ((HC0.out.gr.trans hb2).al (.cells #[.int .i64 0, .slice none 0 0] 24))
    clear hb2 f0 f1 kP
    go_wp2_with fail
    with_reducible refine (kal.out _).mono ?_
    rintro ee w3 ⟨rfl, hb3⟩
    have f0 := ((BA.gr hb3).at_ (k := 0) rfl).1
    have f1 := ((BA.gr hb3).at_ (k := 1) rfl).1
    go_wp2_with fail
    with_reducible refine (kem.out _).mono ?_
    rintro ee w4 ⟨rfl, hb4⟩
    go_wp2_with fail
    go_ret
    exact ⟨rfl, (G2.out.trans hb3).trans hb4⟩
end
set_option maxRecDepth 100000 in
theorem TreapBack_lifted (os : Os) (started : os.Started) (H : Type) (enc : TypeId × Value → H) :
    ReturnsInHanded {} Try.checked os 7 .any (Rows.treapBackSpec.pre6 enc Try.prog Try.f7 Rows.treapBackRow.domain false) (Rows.treapBackSpec.post enc Try.prog Try.f7 false true false false) := by
  refine returnsInHanded_of_change (C := Try.checked) own started (by kernel_rfl) Try.func7
    (ChangeSpec.witness6 (enc := enc) (C := Try.checked) false ⟨#[], #[.agg #[.int .i64 0, .slice none 0 0], .int .i64 0], []⟩ 8 (by kernel_rfl) (by kernel_rfl) (by kernel_rfl) (by kernel_rfl)) ?_
  intro W base args ds gs before hval0 hW hcnd _
  have hval : ∀ (j : Nat) t v, Try.f7.params[j]? = some t → args[j]? = some v → Value.okWide Try.prog W .any base t v := hval0
  have hW' := hW
  obtain ⟨p, q, hA0, hV, rfl, hfz, hnd⟩ := hW
  have hA : DataW.TrodAll enc Try.prog W 0 (fun _ => true) true Try.f7.params.toList args.toList ds p := hA0
  rw [Try.params7] at hA hval
  have hK := hA
  obtain ⟨v0, vs0, d0, ds0, p0, q0, hargs, rfl, hp, h0, r0⟩ := trodAll_cons hA
  obtain ⟨v1, vs1, d1, ds1, p1, q1, rfl, rfl, rfl, h1, r1⟩ := trodAll_cons r0
  obtain ⟨rfl, rfl, rfl⟩ := trodAll_nil r1
  obtain rfl : args = #[v0, v1] := by cases args; simp_all
  obtain ⟨rfl, rfl⟩ := trodVars_none hV
  obtain ⟨x0, A0, n0, c0, l0, rfl, hr0, hc0, hn0, hm0⟩ := open_tree (hval 0 24 v0 rfl rfl) h0
  obtain ⟨a1, rfl, rfl, rfl, w1⟩ := open_int Try.underlying3 (hval 1 3 v1 rfl rfl) h1
  clear hA0 hval0
  refine (TreapBack_walk W x0 A0 n0 c0 l0 hr0 hc0 hn0 hm0 a1 (wfb w1)).mono fun e W' ⟨he, hg⟩ => ?_
  subst he
  exact ⟨_, rfl, post_below (pa := p) (pv := []) hW' (fun _ _ _ => (trodAll_cons_mk (shut_bool Try.underlying4 _) trodAll_mk0))
    (fun sp hs => trodAll_stays laidOut hg sp (by kernel_rfl) hK (fun x hx => hW'.lt x (List.mem_append_left _ hx)) (fun x hx => hs x (List.mem_append_left _ hx))) (fun _ _ => rfl) rfl
    hg (ok_one (by kernel_rfl) rfl (okWide_bool_mk Try.underlying4 _))⟩

theorem TreapBack_over : Rows.treapBackRow.holds Try.pinned (OpenSpec.ofChange Rows.treapBackSpec) :=
  OpenClaim.holds_of_wide 7 Try.f7 rfl rfl rfl rfl rfl rfl rfl ⟨rfl, rfl, rfl, rfl, rfl⟩ rfl rfl rfl rfl rfl (by kernel_rfl) Try.func7 (by kernel_rfl)
    (of_decide_eq_true (by kernel_rfl)) (by unfold Func.isWrapper; first | (rw [if_pos (by decide +kernel)]; kernel_rfl) | (rw [if_neg (by decide +kernel)]; exact ⟨rfl, rfl⟩))
    (fun os started H enc _ => TreapBack_lifted os started H enc)

/-- The statement. -/
theorem TreapBack_holds : Rows.TreapBackSaid :=
  TreapBack_over
#print axioms TreapBack_holds
end Go.Proofs.Ytpblonfcdnephaa
