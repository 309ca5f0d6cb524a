/-
  The law TreapTurns.
-/
import Derived.Test.YtpblonfcdnephaaTreapBack
import Derived.Test.YtpblonfcdnephaaTreapRefD
namespace Go.Proofs.Ytpblonfcdnephaa
open Go.ChangeShapes Go.WideShapes Go.ChangeAt Go.RowKit
set_option linter.unusedVariables false
set_option linter.unusedSimpArgs false

section
variable {w : World} {r : Int} {A : Option Addr} {n c m : Nat} {l : List Nd} {t : T} {x : Int}
set_option maxRecDepth 100000 in
set_option maxHeartbeats 8000000 in
theorem turns_bad (hc : n ≤ c) (hn : c ≤ 9223372036854775807) (hm : NMem w A n l) (hmn : (70 < n ∧ m = 70) ∨ (n ≤ 70 ∧ m = n)) (hmle : m ≤ n) (hm70 : m ≤ 70) (hb : ¬ ∃ t, Good (l.take m) r t) :
    Calls Try.prog 4 #[.agg #[.int .i64 r, .slice A n c], .int .i64 x] w fun e w' => e = .returned (.bool true) ∧ Gr w w' := by
  have c1 := Lib.hid (few_ok r A n c m hc hn hmn (w.alloc (.cells #[.int .i64 r, .slice A n c] 24)))
  have hal := fun W => alive_ok W
  have kal := Lib.hid hal
  have hem := fun W => empty_ok W
  have kem := Lib.hid hem
  have HM := Lib.hid hm
  have BB := Blk.new w #[.int .i64 r, .slice A n c] 24
  have HBad := Lib.hid hb
  clear hal hem hm hmn
  go_enter Try.func4, Try.ntmps4
  go_wp2_with fail
  with_reducible refine c1.out.mono ?_
  rintro e w1 ⟨rfl, hb1⟩
  have HC0 := Lib.hid (cut_new HM.out hmle hb1)
  obtain ⟨p0, z0⟩ := (BB.gr hb1).at_ (k := 0) rfl
  obtain ⟨p1, z1⟩ := (BB.gr hb1).at_ (k := 1) rfl
  clear c1 hb1 BB
  go_wp2_with fail
  have f0 := (HC0.out.b0.at_ (k := 0) rfl).1
  have f1 := (HC0.out.b0.at_ (k := 1) rfl).1
  clear p0 p1 z0 z1
  generalize (w1.setCell _ _).setCell _ _ = W0 at *
  have kP := Lib.hid (Put_no (c := c) HC0.out.mem (x := x) (r := r) (e := 1) (.inl ⟨.inr HBad.out, rfl⟩))
  go_wp2_with fail
  with_reducible refine kP.out.mono ?_
  rintro e w2 ⟨rfl, hb2⟩
  have gA := hb2.al (.cells #[.int .i64 0, .slice none 0 0] 24)
  have HC2 := Lib.hid (HC0.out.gr' gA)
  have BA := Lib.hid (Blk.new w2 #[.int .i64 0, .slice none 0 0] 24)
  have kD := Lib.hid (Del_no (c := c) HC2.out.mem (x := x) (r := r) (e := 1) (.inl ⟨.inr HBad.out, rfl⟩))
  have f0 := (HC2.out.b0.at_ (k := 0) rfl).1
  have f1 := (HC2.out.b0.at_ (k := 1) rfl).1
  clear kP HC0
  go_wp2_with fail
  with_reducible refine kD.out.mono ?_
  rintro e w3 ⟨rfl, hb3⟩
  have gB := hb3.al (.cells #[.int .i64 0, .slice none 0 0] 24)
  have HC3 := Lib.hid (HC2.out.gr' gB)
  have BA3 := Lib.hid (BA.out.gr gB)
  have BB3 := Lib.hid (Blk.new w3 #[.int .i64 0, .slice none 0 0] 24)
  have f0 := (HC3.out.b0.at_ (k := 0) rfl).1
  have f1 := (HC3.out.b0.at_ (k := 1) rfl).1
  clear kD HC2 BA
  have kR := Lib.hid (rRight_is (c := c) HC3.out.mem hm70 (r := r) (v := false) ⟨fun h => (by cases h), fun h => absurd h HBad.out⟩)
  go_wp2_with fail
  with_reducible refine kR.out.mono ?_
  rintro e w4 ⟨rfl, hb4⟩
  have G4 := Lib.hid hb4
  clear f0 f1 kR
  go_wp2_with fail
  with_reducible refine (kal.out _).mono ?_
  rintro e w6 ⟨rfl, hb⟩
  have G6 := Lib.hid (G4.out.trans hb)
  clear hb
  have a0 := ((BA3.out.gr G6.out).at_ (k := 0) rfl).1
  have a1 := ((BA3.out.gr G6.out).at_ (k := 1) rfl).1
  go_wp2_with fail
  with_reducible refine (kem.out _).mono ?_
  rintro e w7 ⟨rfl, hb⟩
  have G7 := Lib.hid (G6.out.trans hb)
  clear hb
  clear a0 a1
  have b0 := ((BB3.out.gr G7.out).at_ (k := 0) rfl).1
  have b1 := ((BB3.out.gr G7.out).at_ (k := 1) rfl).1
  go_wp2_with fail
  with_reducible refine (kem.out _).mono ?_
  rintro e w8 ⟨rfl, hb⟩
  have G8 := Lib.hid (G7.out.trans hb)
  clear hb
  go_wp2_with fail
  go_ret
  exact ⟨rfl, HC3.out.gr.trans G8.out⟩

set_option maxRecDepth 100000 in
set_option maxHeartbeats 8000000 in
theorem turns_nokey (hc : n ≤ c) (hn : c ≤ 9223372036854775807) (hm : NMem w A n l) (hmn : (70 < n ∧ m = 70) ∨ (n ≤ 70 ∧ m = n)) (hmle : m ≤ n) (hm70 : m ≤ 70) (hg : Good (l.take m) r t) (hx : ¬ IsKey x) :
    Calls Try.prog 4 #[.agg #[.int .i64 r, .slice A n c], .int .i64 x] w fun e w' => e = .returned (.bool true) ∧ Gr w w' := by
  have c1 := Lib.hid (few_ok r A n c m hc hn hmn (w.alloc (.cells #[.int .i64 r, .slice A n c] 24)))
  have hal := fun W => alive_ok W
  have kal := Lib.hid hal
  have hem := fun W => empty_ok W
  have kem := Lib.hid hem
  have HM := Lib.hid hm
  have BB := Blk.new w #[.int .i64 r, .slice A n c] 24
  have HG := Lib.hid hg
  have HX := Lib.hid hx
  clear hg hx
  clear hal hem hm hmn
  go_enter Try.func4, Try.ntmps4
  go_wp2_with fail
  with_reducible refine c1.out.mono ?_
  rintro e w1 ⟨rfl, hb1⟩
  have HC0 := Lib.hid (cut_new HM.out hmle hb1)
  obtain ⟨p0, z0⟩ := (BB.gr hb1).at_ (k := 0) rfl
  obtain ⟨p1, z1⟩ := (BB.gr hb1).at_ (k := 1) rfl
  clear c1 hb1 BB
  go_wp2_with fail
  have f0 := (HC0.out.b0.at_ (k := 0) rfl).1
  have f1 := (HC0.out.b0.at_ (k := 1) rfl).1
  clear p0 p1 z0 z1
  generalize (w1.setCell _ _).setCell _ _ = W0 at *
  have kP := Lib.hid (Put_no (c := c) HC0.out.mem (x := x) (r := r) (e := 1) (.inl ⟨.inl HX.out, rfl⟩))
  go_wp2_with fail
  with_reducible refine kP.out.mono ?_
  rintro e w2 ⟨rfl, hb2⟩
  have gA := hb2.al (.cells #[.int .i64 0, .slice none 0 0] 24)
  have HC2 := Lib.hid (HC0.out.gr' gA)
  have BA := Lib.hid (Blk.new w2 #[.int .i64 0, .slice none 0 0] 24)
  have kD := Lib.hid (Del_no (c := c) HC2.out.mem (x := x) (r := r) (e := 1) (.inl ⟨.inl HX.out, rfl⟩))
  have f0 := (HC2.out.b0.at_ (k := 0) rfl).1
  have f1 := (HC2.out.b0.at_ (k := 1) rfl).1
  clear kP HC0
  go_wp2_with fail
  with_reducible refine kD.out.mono ?_
  rintro e w3 ⟨rfl, hb3⟩
  have gB := hb3.al (.cells #[.int .i64 0, .slice none 0 0] 24)
  have HC3 := Lib.hid (HC2.out.gr' gB)
  have BA3 := Lib.hid (BA.out.gr gB)
  have BB3 := Lib.hid (Blk.new w3 #[.int .i64 0, .slice none 0 0] 24)
  have f0 := (HC3.out.b0.at_ (k := 0) rfl).1
  have f1 := (HC3.out.b0.at_ (k := 1) rfl).1
  clear kD HC2 BA
  have kR := Lib.hid (rRight_is (c := c) HC3.out.mem hm70 (r := r) (v := true) ⟨fun _ => ⟨t, HG.out⟩, fun _ => rfl⟩)
  go_wp2_with fail
  with_reducible refine kR.out.mono ?_
  rintro e w4 ⟨rfl, hb4⟩
  have G4 := Lib.hid hb4
  clear f0 f1 kR
  have kK := Lib.hid (fun W => rKey_is x (v := false) ⟨fun h => (by cases h), fun h => absurd h HX.out⟩ W)
  go_wp2_with fail
  with_reducible refine (kK.out _).mono ?_
  rintro e w5 ⟨rfl, rfl⟩
  go_wp2_with fail
  with_reducible refine (kal.out _).mono ?_
  rintro e w6 ⟨rfl, hb⟩
  have G6 := Lib.hid (G4.out.trans hb)
  clear hb
  have a0 := ((BA3.out.gr G6.out).at_ (k := 0) rfl).1
  have a1 := ((BA3.out.gr G6.out).at_ (k := 1) rfl).1
  go_wp2_with fail
  with_reducible refine (kem.out _).mono ?_
  rintro e w7 ⟨rfl, hb⟩
  have G7 := Lib.hid (G6.out.trans hb)
  clear hb
  clear a0 a1
  have b0 := ((BB3.out.gr G7.out).at_ (k := 0) rfl).1
  have b1 := ((BB3.out.gr G7.out).at_ (k := 1) rfl).1
  go_wp2_with fail
  with_reducible refine (kem.out _).mono ?_
  rintro e w8 ⟨rfl, hb⟩
  have G8 := Lib.hid (G7.out.trans hb)
  clear hb
  go_wp2_with fail
  go_ret
  exact ⟨rfl, HC3.out.gr.trans G8.out⟩

set_option maxRecDepth 100000 in
set_option maxHeartbeats 8000000 in
theorem turns_in (hc : n ≤ c) (hn : c ≤ 9223372036854775807) (hm : NMem w A n l) (hmn : (70 < n ∧ m = 70) ∨ (n ≤ 70 ∧ m = n)) (hmle : m ≤ n) (hm70 : m ≤ 70) (hg : Good (l.take m) r t) (hx : IsKey x) (hin : x ∈ t.inord) :
    Calls Try.prog 4 #[.agg #[.int .i64 r, .slice A n c], .int .i64 x] w fun e w' => e = .returned (.bool true) ∧ Gr w w' := by
  have c1 := Lib.hid (few_ok r A n c m hc hn hmn (w.alloc (.cells #[.int .i64 r, .slice A n c] 24)))
  have hal := fun W => alive_ok W
  have kal := Lib.hid hal
  have hem := fun W => empty_ok W
  have kem := Lib.hid hem
  have HM := Lib.hid hm
  have BB := Blk.new w #[.int .i64 r, .slice A n c] 24
  have HG := Lib.hid hg
  have HX := Lib.hid hx
  have HI := Lib.hid hin
  clear hg hx hin
  clear hal hem hm hmn
  go_enter Try.func4, Try.ntmps4
  go_wp2_with fail
  with_reducible refine c1.out.mono ?_
  rintro e w1 ⟨rfl, hb1⟩
  have HC0 := Lib.hid (cut_new HM.out hmle hb1)
  obtain ⟨p0, z0⟩ := (BB.gr hb1).at_ (k := 0) rfl
  obtain ⟨p1, z1⟩ := (BB.gr hb1).at_ (k := 1) rfl
  clear c1 hb1 BB
  go_wp2_with fail
  have f0 := (HC0.out.b0.at_ (k := 0) rfl).1
  have f1 := (HC0.out.b0.at_ (k := 1) rfl).1
  clear p0 p1 z0 z1
  generalize (w1.setCell _ _).setCell _ _ = W0 at *
  have kP := Lib.hid (Put_no (c := c) HC0.out.mem (x := x) (r := r) (e := 7) (.inr ⟨HX.out, t, HG.out, .inl ⟨HI.out, rfl⟩⟩))
  go_wp2_with fail
  with_reducible refine kP.out.mono ?_
  rintro e w2 ⟨rfl, hb2⟩
  have gA := hb2.al (.cells #[.int .i64 0, .slice none 0 0] 24)
  have HC2 := Lib.hid (HC0.out.gr' gA)
  have BA := Lib.hid (Blk.new w2 #[.int .i64 0, .slice none 0 0] 24)
  have kD := Lib.hid (Del_ok (c := c) HC2.out.mem HG.out HI.out)
  have f0 := (HC2.out.b0.at_ (k := 0) rfl).1
  have f1 := (HC2.out.b0.at_ (k := 1) rfl).1
  clear kP HC0
  go_wp2_with fail
  with_reducible refine kD.out.mono ?_
  rintro e w3 ⟨mm, r2, g2, l2, t2, rfl, hm2, hg2, hk2, hb3, _⟩
  have gB := hb3.al (.cells #[.int .i64 r2, .slice (some ⟨g2, 0, none⟩) mm mm] 24)
  have HC3 := Lib.hid (HC2.out.gr' gB)
  have BA3 := Lib.hid (BA.out.gr gB)
  have BB3 := Lib.hid (Blk.new w3 #[.int .i64 r2, .slice (some ⟨g2, 0, none⟩) mm mm] 24)
  have f0 := (HC3.out.b0.at_ (k := 0) rfl).1
  have f1 := (HC3.out.b0.at_ (k := 1) rfl).1
  clear kD HC2 BA
  have hmm : mm ≤ 64 := by have := hg2.2.2.1; have := hm2.1; omega
  have h2l : t2.inord.length = mm := by rw [T.inord_len, hg2.2.1, hm2.1]
  have h22 : t2.inord = t.inord.filter (fun y => y != x) := rising_ext hg2.2.2.2.1.rising (HG.out.2.2.2.1.rising.filter _) fun y => by
    rw [hk2 y, List.mem_filter]
    simp only [bne_iff_ne, ne_eq]
    exact And.comm
  have HMB := Lib.hid (hm2.gr ((Gr.refl w3).al (.cells #[.int .i64 r2, .slice (some ⟨g2, 0, none⟩) mm mm] 24)))
  have HG2 := Lib.hid hg2
  have H22 := Lib.hid h22
  have H2L := Lib.hid h2l
  clear hm2 hg2 hk2 h22 h2l gA gB hb2 hb3
  have kR := Lib.hid (rRight_is (c := c) HC3.out.mem hm70 (r := r) (v := true) ⟨fun _ => ⟨t, HG.out⟩, fun _ => rfl⟩)
  go_wp2_with fail
  with_reducible refine kR.out.mono ?_
  rintro e w4 ⟨rfl, hb4⟩
  have G4 := Lib.hid hb4
  clear f0 f1 kR
  have kK := Lib.hid (fun W => rKey_is x (v := true) ⟨fun _ => HX.out, fun _ => rfl⟩ W)
  go_wp2_with fail
  with_reducible refine (kK.out _).mono ?_
  rintro e w5 ⟨rfl, rfl⟩
  have kKs := Lib.hid (rKeys_is (c := c) (HC3.out.mem.gr G4.out) HG.out)
  have f0 := ((HC3.out.gr' G4.out).b0.at_ (k := 0) rfl).1
  have f1 := ((HC3.out.gr' G4.out).b0.at_ (k := 1) rfl).1
  go_wp2_with fail
  with_reducible refine kKs.out.mono ?_
  rintro e w6 ⟨C6, k6, rfl, own6, hb6⟩
  have K6 := Lib.hid own6.mem
  have G6 := Lib.hid (G4.out.trans hb6)
  obtain ⟨p, hp, hpl⟩ := rPlace_any (c := k6) own6.mem (by omega) x
  have kPl := Lib.hid hpl
  clear own6 hb6 hpl kKs f0 f1
  have hp0 : 0 ≤ p := by
    apply Classical.byContradiction
    intro h
    exact hp.1 (by omega) HI.out
  clear hp
  go_wp2_with fail
  with_reducible refine kPl.out.mono ?_
  rintro e w7 ⟨rfl, rfl⟩
  clear kPl
  go_wp2_with fail
  with_reducible refine (kal.out _).mono ?_
  rintro e w8 ⟨rfl, hb⟩
  have G8 := Lib.hid (G6.out.trans hb)
  have K6 := Lib.hid (K6.out.gr hb)
  clear hb
  have a0 := ((BA3.out.gr G8.out).at_ (k := 0) rfl).1
  have a1 := ((BA3.out.gr G8.out).at_ (k := 1) rfl).1
  go_wp2_with fail
  with_reducible refine (kem.out _).mono ?_
  rintro e w9 ⟨rfl, hb⟩
  have G9 := Lib.hid (G8.out.trans hb)
  have K6 := Lib.hid (K6.out.gr hb)
  clear hb
  clear a0 a1
  have b0 := ((BB3.out.gr G9.out).at_ (k := 0) rfl).1
  have b1 := ((BB3.out.gr G9.out).at_ (k := 1) rfl).1
  have kRb := Lib.hid (rRight_is (c := mm) (HMB.out.gr G9.out) (by omega) (r := r2) (v := true) ⟨fun _ => ⟨t2, HG2.out⟩, fun _ => rfl⟩)
  go_wp2_with fail
  with_reducible refine kRb.out.mono ?_
  rintro e w10 ⟨rfl, hb⟩
  have G10 := Lib.hid (G9.out.trans hb)
  have K6 := Lib.hid (K6.out.gr hb)
  clear hb kRb b0 b1
  have b0 := ((BB3.out.gr G10.out).at_ (k := 0) rfl).1
  have b1 := ((BB3.out.gr G10.out).at_ (k := 1) rfl).1
  have kKb := Lib.hid (rKeys_is (c := mm) (HMB.out.gr G10.out) HG2.out)
  go_wp2_with fail
  with_reducible refine kKb.out.mono ?_
  rintro e w11 ⟨C11, k11, rfl, own11, hb⟩
  have G11 := Lib.hid (G10.out.trans hb)
  have hxB : B64 x := by have := HX.out; unfold IsKey at this; unfold B64; omega
  have K11 := Lib.hid own11.mem
  have kWo := Lib.hid (rWithout_is (c := k6) (K6.out.gr hb) (by omega) hxB H22.out)
  rw [H2L.out] at kWo
  clear hb kKb b0 b1 own11
  go_wp2_with fail
  with_reducible refine kWo.out.mono ?_
  rintro e w12 ⟨C12, k12, rfl, own12, hb⟩
  have G12 := Lib.hid (G11.out.trans hb)
  have kS := Lib.hid (rSame_is (c := k11) (d := k12) (K11.out.gr hb) own12.mem (by omega) (by omega) (v := true) ⟨fun _ => rfl, fun _ => rfl⟩)
  clear hb own12
  go_wp2_with fail
  with_reducible refine kS.out.mono ?_
  rintro e w13 ⟨rfl, hb⟩
  have G13 := Lib.hid (G12.out.trans hb)
  go_wp2_with fail
  go_ret
  exact ⟨rfl, HC3.out.gr.trans G13.out⟩

set_option maxRecDepth 100000 in
set_option maxHeartbeats 8000000 in
theorem turns_full (hc : n ≤ c) (hn : c ≤ 9223372036854775807) (hm : NMem w A n l) (hmn : (70 < n ∧ m = 70) ∨ (n ≤ 70 ∧ m = n)) (hmle : m ≤ n) (hm70 : m ≤ 70) (hg : Good (l.take m) r t) (hx : IsKey x) (hin : x ∉ t.inord) (h64 : m = 64) :
    Calls Try.prog 4 #[.agg #[.int .i64 r, .slice A n c], .int .i64 x] w fun e w' => e = .returned (.bool true) ∧ Gr w w' := by
  have c1 := Lib.hid (few_ok r A n c m hc hn hmn (w.alloc (.cells #[.int .i64 r, .slice A n c] 24)))
  have hal := fun W => alive_ok W
  have kal := Lib.hid hal
  have hem := fun W => empty_ok W
  have kem := Lib.hid hem
  have HM := Lib.hid hm
  have BB := Blk.new w #[.int .i64 r, .slice A n c] 24
  have HG := Lib.hid hg
  have HX := Lib.hid hx
  have HI := Lib.hid hin
  clear hg hx hin
  have H64 := Lib.hid h64
  clear h64
  clear hal hem hm hmn
  go_enter Try.func4, Try.ntmps4
  go_wp2_with fail
  with_reducible refine c1.out.mono ?_
  rintro e w1 ⟨rfl, hb1⟩
  have HC0 := Lib.hid (cut_new HM.out hmle hb1)
  obtain ⟨p0, z0⟩ := (BB.gr hb1).at_ (k := 0) rfl
  obtain ⟨p1, z1⟩ := (BB.gr hb1).at_ (k := 1) rfl
  clear c1 hb1 BB
  go_wp2_with fail
  have f0 := (HC0.out.b0.at_ (k := 0) rfl).1
  have f1 := (HC0.out.b0.at_ (k := 1) rfl).1
  clear p0 p1 z0 z1
  generalize (w1.setCell _ _).setCell _ _ = W0 at *
  have kP := Lib.hid (Put_no (c := c) HC0.out.mem (x := x) (r := r) (e := 5) (.inr ⟨HX.out, t, HG.out, .inr ⟨HI.out, by rw [HC0.out.mem.1]; exact H64.out, rfl⟩⟩))
  go_wp2_with fail
  with_reducible refine kP.out.mono ?_
  rintro e w2 ⟨rfl, hb2⟩
  have gA := hb2.al (.cells #[.int .i64 0, .slice none 0 0] 24)
  have HC2 := Lib.hid (HC0.out.gr' gA)
  have BA := Lib.hid (Blk.new w2 #[.int .i64 0, .slice none 0 0] 24)
  have kD := Lib.hid (Del_no (c := c) HC2.out.mem (x := x) (r := r) (e := 4) (.inr ⟨HX.out, t, HG.out, HI.out, rfl⟩))
  have f0 := (HC2.out.b0.at_ (k := 0) rfl).1
  have f1 := (HC2.out.b0.at_ (k := 1) rfl).1
  clear kP HC0
  go_wp2_with fail
  with_reducible refine kD.out.mono ?_
  rintro e w3 ⟨rfl, hb3⟩
  have gB := hb3.al (.cells #[.int .i64 0, .slice none 0 0] 24)
  have HC3 := Lib.hid (HC2.out.gr' gB)
  have BA3 := Lib.hid (BA.out.gr gB)
  have BB3 := Lib.hid (Blk.new w3 #[.int .i64 0, .slice none 0 0] 24)
  have f0 := (HC3.out.b0.at_ (k := 0) rfl).1
  have f1 := (HC3.out.b0.at_ (k := 1) rfl).1
  clear kD HC2 BA
  have hne : ((m : Int) == 64) = true := by rw [H64.out]; rfl
  clear gA gB hb2 hb3
  have kR := Lib.hid (rRight_is (c := c) HC3.out.mem hm70 (r := r) (v := true) ⟨fun _ => ⟨t, HG.out⟩, fun _ => rfl⟩)
  go_wp2_with fail
  with_reducible refine kR.out.mono ?_
  rintro e w4 ⟨rfl, hb4⟩
  have G4 := Lib.hid hb4
  clear f0 f1 kR
  have kK := Lib.hid (fun W => rKey_is x (v := true) ⟨fun _ => HX.out, fun _ => rfl⟩ W)
  go_wp2_with fail
  with_reducible refine (kK.out _).mono ?_
  rintro e w5 ⟨rfl, rfl⟩
  have kKs := Lib.hid (rKeys_is (c := c) (HC3.out.mem.gr G4.out) HG.out)
  have f0 := ((HC3.out.gr' G4.out).b0.at_ (k := 0) rfl).1
  have f1 := ((HC3.out.gr' G4.out).b0.at_ (k := 1) rfl).1
  go_wp2_with fail
  with_reducible refine kKs.out.mono ?_
  rintro e w6 ⟨C6, k6, rfl, own6, hb6⟩
  have K6 := Lib.hid own6.mem
  have G6 := Lib.hid (G4.out.trans hb6)
  obtain ⟨p, hp, hpl⟩ := rPlace_any (c := k6) own6.mem (by omega) x
  have kPl := Lib.hid hpl
  clear own6 hb6 hpl kKs f0 f1
  have hp0 : p < 0 := hp.2 HI.out
  clear hp
  go_wp2_with fail
  with_reducible refine kPl.out.mono ?_
  rintro e w7 ⟨rfl, rfl⟩
  clear kPl
  have b0 := ((BB3.out.gr G6.out).at_ (k := 0) rfl).1
  have b1 := ((BB3.out.gr G6.out).at_ (k := 1) rfl).1
  go_wp2_with fail
  with_reducible refine (kem.out _).mono ?_
  rintro e w8 ⟨rfl, hb⟩
  have G8 := Lib.hid (G6.out.trans hb)
  have K6 := Lib.hid (K6.out.gr hb)
  clear hb
  clear b0 b1
  go_wp2_with fail
  with_reducible refine (kal.out _).mono ?_
  rintro e w9 ⟨rfl, hb⟩
  have G9 := Lib.hid (G8.out.trans hb)
  have K6 := Lib.hid (K6.out.gr hb)
  clear hb
  have a0 := ((BA3.out.gr G9.out).at_ (k := 0) rfl).1
  have a1 := ((BA3.out.gr G9.out).at_ (k := 1) rfl).1
  go_wp2_with fail
  with_reducible refine (kem.out _).mono ?_
  rintro e w10 ⟨rfl, hb⟩
  have G10 := Lib.hid (G9.out.trans hb)
  have K6 := Lib.hid (K6.out.gr hb)
  clear hb
  go_wp2_with fail
  go_ret
  exact ⟨rfl, HC3.out.gr.trans G10.out⟩

set_option maxRecDepth 100000 in
set_option maxHeartbeats 8000000 in
theorem turns_ok (hc : n ≤ c) (hn : c ≤ 9223372036854775807) (hm : NMem w A n l) (hmn : (70 < n ∧ m = 70) ∨ (n ≤ 70 ∧ m = n)) (hmle : m ≤ n) (hm70 : m ≤ 70) (hg : Good (l.take m) r t) (hx : IsKey x) (hin : x ∉ t.inord) (h64 : m ≠ 64) :
    Calls Try.prog 4 #[.agg #[.int .i64 r, .slice A n c], .int .i64 x] w fun e w' => e = .returned (.bool true) ∧ Gr w w' := by
  have c1 := Lib.hid (few_ok r A n c m hc hn hmn (w.alloc (.cells #[.int .i64 r, .slice A n c] 24)))
  have hal := fun W => alive_ok W
  have kal := Lib.hid hal
  have hem := fun W => empty_ok W
  have kem := Lib.hid hem
  have HM := Lib.hid hm
  have BB := Blk.new w #[.int .i64 r, .slice A n c] 24
  have HG := Lib.hid hg
  have HX := Lib.hid hx
  have HI := Lib.hid hin
  clear hg hx hin
  clear hal hem hm hmn
  go_enter Try.func4, Try.ntmps4
  go_wp2_with fail
  with_reducible refine c1.out.mono ?_
  rintro e w1 ⟨rfl, hb1⟩
  have HC0 := Lib.hid (cut_new HM.out hmle hb1)
  obtain ⟨p0, z0⟩ := (BB.gr hb1).at_ (k := 0) rfl
  obtain ⟨p1, z1⟩ := (BB.gr hb1).at_ (k := 1) rfl
  clear c1 hb1 BB
  go_wp2_with fail
  have f0 := (HC0.out.b0.at_ (k := 0) rfl).1
  have f1 := (HC0.out.b0.at_ (k := 1) rfl).1
  clear p0 p1 z0 z1
  generalize (w1.setCell _ _).setCell _ _ = W0 at *
  have kP := Lib.hid (Put_ok (c := c) HC0.out.mem HG.out HX.out HI.out (by rw [HC0.out.mem.1]; exact h64))
  go_wp2_with fail
  with_reducible refine kP.out.mono ?_
  rintro e w2 ⟨r1, g1, l1, t1, rfl, hm1, hg1, hk1, hb2, _⟩
  have gA := hb2.al (.cells #[.int .i64 r1, .slice (some ⟨g1, 0, none⟩) (m + 1) (m + 1)] 24)
  have HC2 := Lib.hid (HC0.out.gr' gA)
  have BA := Lib.hid (Blk.new w2 #[.int .i64 r1, .slice (some ⟨g1, 0, none⟩) (m + 1) (m + 1)] 24)
  have kD := Lib.hid (Del_no (c := c) HC2.out.mem (x := x) (r := r) (e := 4) (.inr ⟨HX.out, t, HG.out, HI.out, rfl⟩))
  have f0 := (HC2.out.b0.at_ (k := 0) rfl).1
  have f1 := (HC2.out.b0.at_ (k := 1) rfl).1
  clear kP HC0
  go_wp2_with fail
  with_reducible refine kD.out.mono ?_
  rintro e w3 ⟨rfl, hb3⟩
  have gB := hb3.al (.cells #[.int .i64 0, .slice none 0 0] 24)
  have HC3 := Lib.hid (HC2.out.gr' gB)
  have BA3 := Lib.hid (BA.out.gr gB)
  have BB3 := Lib.hid (Blk.new w3 #[.int .i64 0, .slice none 0 0] 24)
  have f0 := (HC3.out.b0.at_ (k := 0) rfl).1
  have f1 := (HC3.out.b0.at_ (k := 1) rfl).1
  clear kD HC2 BA
  have hmm : m + 1 ≤ 64 := by have := hg1.2.2.1; have := hm1.1; omega
  have h11 : t1.inord = wi x t.inord := rising_ext hg1.2.2.2.1.rising (wi_rising HG.out.2.2.2.1.rising HI.out) fun y => by rw [hk1 y, wi_mem]
  have HMA := Lib.hid ((hm1.gr ((Gr.refl w2).al (.cells #[.int .i64 r1, .slice (some ⟨g1, 0, none⟩) (m + 1) (m + 1)] 24))).gr gB)
  have HG1 := Lib.hid hg1
  have H11 := Lib.hid h11
  have hne : ((m : Int) == 64) = false := beq_eq_false_iff_ne.2 (by omega)
  clear hm1 hg1 hk1 h11
  clear gA gB hb2 hb3
  have kR := Lib.hid (rRight_is (c := c) HC3.out.mem hm70 (r := r) (v := true) ⟨fun _ => ⟨t, HG.out⟩, fun _ => rfl⟩)
  go_wp2_with fail
  with_reducible refine kR.out.mono ?_
  rintro e w4 ⟨rfl, hb4⟩
  have G4 := Lib.hid hb4
  clear f0 f1 kR
  have kK := Lib.hid (fun W => rKey_is x (v := true) ⟨fun _ => HX.out, fun _ => rfl⟩ W)
  go_wp2_with fail
  with_reducible refine (kK.out _).mono ?_
  rintro e w5 ⟨rfl, rfl⟩
  have kKs := Lib.hid (rKeys_is (c := c) (HC3.out.mem.gr G4.out) HG.out)
  have f0 := ((HC3.out.gr' G4.out).b0.at_ (k := 0) rfl).1
  have f1 := ((HC3.out.gr' G4.out).b0.at_ (k := 1) rfl).1
  go_wp2_with fail
  with_reducible refine kKs.out.mono ?_
  rintro e w6 ⟨C6, k6, rfl, own6, hb6⟩
  have K6 := Lib.hid own6.mem
  have G6 := Lib.hid (G4.out.trans hb6)
  obtain ⟨p, hp, hpl⟩ := rPlace_any (c := k6) own6.mem (by omega) x
  have kPl := Lib.hid hpl
  clear own6 hb6 hpl kKs f0 f1
  have hp0 : p < 0 := hp.2 HI.out
  clear hp
  go_wp2_with fail
  with_reducible refine kPl.out.mono ?_
  rintro e w7 ⟨rfl, rfl⟩
  clear kPl
  have b0 := ((BB3.out.gr G6.out).at_ (k := 0) rfl).1
  have b1 := ((BB3.out.gr G6.out).at_ (k := 1) rfl).1
  go_wp2_with fail
  with_reducible refine (kem.out _).mono ?_
  rintro e w8 ⟨rfl, hb⟩
  have G8 := Lib.hid (G6.out.trans hb)
  have K6 := Lib.hid (K6.out.gr hb)
  clear hb
  clear b0 b1
  go_wp2_with fail
  with_reducible refine (kal.out _).mono ?_
  rintro e w9 ⟨rfl, hb⟩
  have G9 := Lib.hid (G8.out.trans hb)
  have K6 := Lib.hid (K6.out.gr hb)
  clear hb
  have a0 := ((BA3.out.gr G9.out).at_ (k := 0) rfl).1
  have a1 := ((BA3.out.gr G9.out).at_ (k := 1) rfl).1
  have kRb := Lib.hid (rRight_is (c := m + 1) (HMA.out.gr G9.out) (by omega) (r := r1) (v := true) ⟨fun _ => ⟨t1, HG1.out⟩, fun _ => rfl⟩)
  go_wp2_with fail
  with_reducible refine kRb.out.mono ?_
  rintro e w10 ⟨rfl, hb⟩
  have G10 := Lib.hid (G9.out.trans hb)
  have K6 := Lib.hid (K6.out.gr hb)
  clear hb kRb a0 a1
  have a0 := ((BA3.out.gr G10.out).at_ (k := 0) rfl).1
  have a1 := ((BA3.out.gr G10.out).at_ (k := 1) rfl).1
  have kKb := Lib.hid (rKeys_is (c := m + 1) (HMA.out.gr G10.out) HG1.out)
  go_wp2_with fail
  with_reducible refine kKb.out.mono ?_
  rintro e w11 ⟨C11, k11, rfl, own11, hb⟩
  have G11 := Lib.hid (G10.out.trans hb)
  have hxB : B64 x := by have := HX.out; unfold IsKey at this; unfold B64; omega
  have K11 := Lib.hid own11.mem
  have kWo := Lib.hid (rWith_is (c := k6) (K6.out.gr hb) (by omega) hxB H11.out)
  clear hb kKb a0 a1 own11
  go_wp2_with fail
  with_reducible refine kWo.out.mono ?_
  rintro e w12 ⟨C12, k12, rfl, own12, hb⟩
  have G12 := Lib.hid (G11.out.trans hb)
  have kS := Lib.hid (rSame_is (c := k11) (d := k12) (K11.out.gr hb) own12.mem (by omega) (by omega) (v := true) ⟨fun _ => rfl, fun _ => rfl⟩)
  clear hb own12
  go_wp2_with fail
  with_reducible refine kS.out.mono ?_
  rintro e w13 ⟨rfl, hb⟩
  have G13 := Lib.hid (G12.out.trans hb)
  go_wp2_with fail
  go_ret
  exact ⟨rfl, HC3.out.gr.trans G13.out⟩
end
theorem TreapTurns_walk (w : World) (r : Int) (A : Option Addr) (n c : Nat) (l : List Nd) (hr : B64 r) (hc : n ≤ c) (hn : c ≤ 9223372036854775807) (hm : NMem w A n l) (x : Int) (hx : B64 x) :
    Calls Try.prog 4 #[.agg #[.int .i64 r, .slice A n c], .int .i64 x] w fun e w' => e = .returned (.bool true) ∧ Gr w w' := by
  obtain ⟨m, hmn, hmle⟩ := few_at n
  have h70 : m ≤ 70 := by omega
  by_cases hg : ∃ t, Good (l.take m) r t
  · obtain ⟨t, hg⟩ := hg
    by_cases hk : IsKey x
    · by_cases hin : x ∈ t.inord
      · exact turns_in hc hn hm hmn hmle h70 hg hk hin
      · by_cases h64 : m = 64
        · exact turns_full hc hn hm hmn hmle h70 hg hk hin h64
        · exact turns_ok hc hn hm hmn hmle h70 hg hk hin h64
    · exact turns_nokey hc hn hm hmn hmle h70 hg hk
  · exact turns_bad hc hn hm hmn hmle h70 hg
set_option maxRecDepth 100000 in
theorem TreapTurns_lifted (os : Os) (started : os.Started) (H : Type) (enc : TypeId × Value → H) :
    ReturnsInHanded {} Try.checked os 4 .any (Rows.treapTurnsSpec.pre6 enc Try.prog Try.f4 Rows.treapTurnsRow.domain false) (Rows.treapTurnsSpec.post enc Try.prog Try.f4 false true false false) := by
  refine returnsInHanded_of_change (C := Try.checked) own started (by kernel_rfl) Try.func4
    (ChangeSpec.witness6 (enc := enc) (C := Try.checked) false ⟨#[], #[.agg #[.int .i64 0, .slice none 0 0], .int .i64 0], []⟩ 8 (by kernel_rfl) (by kernel_rfl) (by kernel_rfl) (by kernel_rfl)) ?_
  intro W base args ds gs before hval0 hW hcnd _
  have hval : ∀ (j : Nat) t v, Try.f4.params[j]? = some t → args[j]? = some v → Value.okWide Try.prog W .any base t v := hval0
  have hW' := hW
  obtain ⟨p, q, hA0, hV, rfl, hfz, hnd⟩ := hW
  have hA : DataW.TrodAll enc Try.prog W 0 (fun _ => true) true Try.f4.params.toList args.toList ds p := hA0
  rw [Try.params4] at hA hval
  have hK := hA
  obtain ⟨v0, vs0, d0, ds0, p0, q0, hargs, rfl, hp, h0, r0⟩ := trodAll_cons hA
  obtain ⟨v1, vs1, d1, ds1, p1, q1, rfl, rfl, rfl, h1, r1⟩ := trodAll_cons r0
  obtain ⟨rfl, rfl, rfl⟩ := trodAll_nil r1
  obtain rfl : args = #[v0, v1] := by cases args; simp_all
  obtain ⟨rfl, rfl⟩ := trodVars_none hV
  obtain ⟨x0, A0, n0, c0, l0, rfl, hr0, hc0, hn0, hm0⟩ := open_tree (hval 0 24 v0 rfl rfl) h0
  obtain ⟨a1, rfl, rfl, rfl, w1⟩ := open_int Try.underlying3 (hval 1 3 v1 rfl rfl) h1
  clear hA0 hval0
  refine (TreapTurns_walk W x0 A0 n0 c0 l0 hr0 hc0 hn0 hm0 a1 (wfb w1)).mono fun e W' ⟨he, hg⟩ => ?_
  subst he
  exact ⟨_, rfl, post_below (pa := p) (pv := []) hW' (fun _ _ _ => (trodAll_cons_mk (shut_bool Try.underlying4 _) trodAll_mk0))
    (fun sp hs => trodAll_stays laidOut hg sp (by kernel_rfl) hK (fun x hx => hW'.lt x (List.mem_append_left _ hx)) (fun x hx => hs x (List.mem_append_left _ hx))) (fun _ _ => rfl) rfl
    hg (ok_one (by kernel_rfl) rfl (okWide_bool_mk Try.underlying4 _))⟩

theorem TreapTurns_over : Rows.treapTurnsRow.holds Try.pinned (OpenSpec.ofChange Rows.treapTurnsSpec) :=
  OpenClaim.holds_of_wide 4 Try.f4 rfl rfl rfl rfl rfl rfl rfl ⟨rfl, rfl, rfl, rfl, rfl⟩ rfl rfl rfl rfl rfl (by kernel_rfl) Try.func4 (by kernel_rfl)
    (of_decide_eq_true (by kernel_rfl)) (by unfold Func.isWrapper; first | (rw [if_pos (by decide +kernel)]; kernel_rfl) | (rw [if_neg (by decide +kernel)]; exact ⟨rfl, rfl⟩))
    (fun os started H enc _ => TreapTurns_lifted os started H enc)

/-- The statement. -/
theorem TreapTurns_holds : Rows.TreapTurnsSaid :=
  TreapTurns_over
#print axioms TreapTurns_holds
end Go.Proofs.Ytpblonfcdnephaa

