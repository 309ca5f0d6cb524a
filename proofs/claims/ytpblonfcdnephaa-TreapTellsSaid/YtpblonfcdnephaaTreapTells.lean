/-
  The law TreapTells.
-/
import Derived.Test.YtpblonfcdnephaaTreapBack
import Derived.Test.YtpblonfcdnephaaTreapNext
import Derived.Test.YtpblonfcdnephaaTreapRefD
import Derived.Test.YtpblonfcdnephaaTreapRefE
namespace Go.Proofs.Ytpblonfcdnephaa
open Go.ChangeShapes Go.WideShapes Go.ChangeAt Go.RowKit
set_option linter.unusedVariables false
set_option linter.unusedSimpArgs false

section
variable {w : World} {r : Int} {A : Option Addr} {n c m : Nat} {l : List Nd} {t : T} {x : Int}
set_option maxRecDepth 100000 in
set_option maxHeartbeats 8000000 in
theorem tells_bad1 (hc : n ≤ c) (hn : c ≤ 9223372036854775807) (hm : NMem w A n l) (hmn : (70 < n ∧ m = 70) ∨ (n ≤ 70 ∧ m = n)) (hmle : m ≤ n) (hm70 : m ≤ 70) (hb : ¬ ∃ t, Good (l.take m) r t) (hx : ¬ IsKey x) :
    Calls Try.prog 3 #[.agg #[.int .i64 r, .slice A n c], .int .i64 x] w fun e w' => e = .returned (.bool true) ∧ Gr w w' := by
  have c1 := Lib.hid (few_ok r A n c m hc hn hmn (w.alloc (.cells #[.int .i64 r, .slice A n c] 24)))
  have hal := fun W => alive_ok W
  have kal := Lib.hid hal
  have HM := Lib.hid hm
  have BB := Blk.new w #[.int .i64 r, .slice A n c] 24
  have HBad := Lib.hid hb
  have HX := Lib.hid hx
  clear hb hx
  have hPx := fun W => Pri_is x W
  rw [prf_no HX.out] at hPx
  have kPx := Lib.hid hPx
  clear hal hm hmn hPx
  go_enter Try.func3, Try.ntmps3
  go_wp2_with fail
  with_reducible refine c1.out.mono ?_
  rintro e w1 ⟨rfl, hb1⟩
  have HC0 := Lib.hid (cut_new HM.out hmle hb1)
  obtain ⟨p0, z0⟩ := (BB.gr hb1).at_ (k := 0) rfl
  obtain ⟨p1, z1⟩ := (BB.gr hb1).at_ (k := 1) rfl
  clear c1 hb1 BB
  go_wp2_with fail
  have f0 := (HC0.out.b0.at_ (k := 0) rfl).1
  have f1 := (HC0.out.b0.at_ (k := 1) rfl).1
  clear p0 p1 z0 z1
  generalize (w1.setCell _ _).setCell _ _ = W0 at *
  have kF := Lib.hid (Find_is (c := c) HC0.out.mem (x := x) (r := r) (d := 0) (e := 1) (.inl ⟨HX.out, rfl, rfl⟩))
  go_wp2_with fail
  with_reducible refine kF.out.mono ?_
  rintro e w2 ⟨rfl, hb⟩
  have HC2 := Lib.hid (HC0.out.gr' hb)
  clear hb f0 f1 kF HC0
  have f0 := (HC2.out.b0.at_ (k := 0) rfl).1
  have f1 := (HC2.out.b0.at_ (k := 1) rfl).1
  have kN := Lib.hid (Next_is (c := c) HC2.out.mem (x := x) (r := r) (d := 0) (e := 1) (.inl ⟨HX.out, rfl, rfl⟩))
  go_wp2_with fail
  with_reducible refine kN.out.mono ?_
  rintro e w3 ⟨rfl, hb⟩
  have HC3 := Lib.hid (HC2.out.gr' hb)
  clear hb f0 f1 kN HC2
  have f0 := (HC3.out.b0.at_ (k := 0) rfl).1
  have f1 := (HC3.out.b0.at_ (k := 1) rfl).1
  have kK := Lib.hid (Keys_is (c := c) HC3.out.mem (r := r) (R := []) (e := 1) (.inl ⟨HBad.out, rfl, rfl⟩))
  simp only [List.length_nil] at kK
  go_wp2_with fail
  with_reducible refine kK.out.mono ?_
  rintro e w4 ⟨C4, k4, rfl, own4, hb⟩
  have HC4 := Lib.hid (HC3.out.gr' hb)
  have K4 := Lib.hid own4.mem
  clear hb f0 f1 kK HC3 own4
  have f0 := (HC4.out.b0.at_ (k := 0) rfl).1
  have f1 := (HC4.out.b0.at_ (k := 1) rfl).1
  have kR := Lib.hid (rRight_is (c := c) HC4.out.mem hm70 (r := r) (v := false) ⟨fun h => (by cases h), fun h => absurd h HBad.out⟩)
  have kKy := Lib.hid (fun W => rKey_is x (v := false) ⟨fun h => (by cases h), fun h => absurd h HX.out⟩ W)
  go_wp2_with fail
  with_reducible refine kR.out.mono ?_
  rintro e w5 ⟨rfl, hb⟩
  have HC5 := Lib.hid (HC4.out.gr' hb)
  have K5 := Lib.hid (K4.out.gr hb)
  clear hb f0 f1 kR HC4 K4
  have f0 := (HC5.out.b0.at_ (k := 0) rfl).1
  have f1 := (HC5.out.b0.at_ (k := 1) rfl).1
  go_wp2_with fail
  with_reducible refine (kKy.out _).mono ?_
  rintro e w6 ⟨rfl, rfl⟩
  have kTR := Lib.hid (Right_is (c := c) HC5.out.mem (r := r) (v := false) ⟨fun h => (by cases h), fun h => absurd h HBad.out⟩)
  go_wp2_with fail
  with_reducible refine kTR.out.mono ?_
  rintro e w7 ⟨rfl, hb⟩
  have HC7 := Lib.hid (HC5.out.gr' hb)
  have K7 := Lib.hid (K5.out.gr hb)
  clear hb f0 f1 kTR HC5 K5
  go_wp2_with fail
  with_reducible refine (kPx.out _).mono ?_
  rintro e w8 ⟨rfl, rfl⟩
  go_wp2_with fail
  with_reducible refine (kal.out _).mono ?_
  rintro e w9 ⟨rfl, hb⟩
  have HC9 := Lib.hid (HC7.out.gr' hb)
  have K9 := Lib.hid (K7.out.gr hb)
  clear hb HC7 K7
  have f0 := (HC9.out.b0.at_ (k := 0) rfl).1
  have f1 := (HC9.out.b0.at_ (k := 1) rfl).1
  go_wp2_with fail
  go_ret
  exact ⟨rfl, HC9.out.gr⟩

set_option maxRecDepth 100000 in
set_option maxHeartbeats 8000000 in
theorem tells_bad2 (hc : n ≤ c) (hn : c ≤ 9223372036854775807) (hm : NMem w A n l) (hmn : (70 < n ∧ m = 70) ∨ (n ≤ 70 ∧ m = n)) (hmle : m ≤ n) (hm70 : m ≤ 70) (hb : ¬ ∃ t, Good (l.take m) r t) (hx : IsKey x) :
    Calls Try.prog 3 #[.agg #[.int .i64 r, .slice A n c], .int .i64 x] w fun e w' => e = .returned (.bool true) ∧ Gr w w' := by
  have c1 := Lib.hid (few_ok r A n c m hc hn hmn (w.alloc (.cells #[.int .i64 r, .slice A n c] 24)))
  have hal := fun W => alive_ok W
  have kal := Lib.hid hal
  have HM := Lib.hid hm
  have BB := Blk.new w #[.int .i64 r, .slice A n c] 24
  have HBad := Lib.hid hb
  have HX := Lib.hid hx
  clear hb hx
  have hPx := fun W => Pri_is x W
  have hRx := fun W => rPri_is HX.out W
  rw [prf_key HX.out] at hPx
  generalize pri x = px at *
  have kRx := Lib.hid hRx
  have kPx := Lib.hid hPx
  clear hRx
  clear hal hm hmn hPx
  go_enter Try.func3, Try.ntmps3
  go_wp2_with fail
  with_reducible refine c1.out.mono ?_
  rintro e w1 ⟨rfl, hb1⟩
  have HC0 := Lib.hid (cut_new HM.out hmle hb1)
  obtain ⟨p0, z0⟩ := (BB.gr hb1).at_ (k := 0) rfl
  obtain ⟨p1, z1⟩ := (BB.gr hb1).at_ (k := 1) rfl
  clear c1 hb1 BB
  go_wp2_with fail
  have f0 := (HC0.out.b0.at_ (k := 0) rfl).1
  have f1 := (HC0.out.b0.at_ (k := 1) rfl).1
  clear p0 p1 z0 z1
  generalize (w1.setCell _ _).setCell _ _ = W0 at *
  have kF := Lib.hid (Find_is (c := c) HC0.out.mem (x := x) (r := r) (d := 0) (e := 1) (.inr (.inl ⟨HX.out, HBad.out, rfl, rfl⟩)))
  go_wp2_with fail
  with_reducible refine kF.out.mono ?_
  rintro e w2 ⟨rfl, hb⟩
  have HC2 := Lib.hid (HC0.out.gr' hb)
  clear hb f0 f1 kF HC0
  have f0 := (HC2.out.b0.at_ (k := 0) rfl).1
  have f1 := (HC2.out.b0.at_ (k := 1) rfl).1
  have kN := Lib.hid (Next_is (c := c) HC2.out.mem (x := x) (r := r) (d := 0) (e := 1) (.inr (.inl ⟨HX.out, HBad.out, rfl, rfl⟩)))
  go_wp2_with fail
  with_reducible refine kN.out.mono ?_
  rintro e w3 ⟨rfl, hb⟩
  have HC3 := Lib.hid (HC2.out.gr' hb)
  clear hb f0 f1 kN HC2
  have f0 := (HC3.out.b0.at_ (k := 0) rfl).1
  have f1 := (HC3.out.b0.at_ (k := 1) rfl).1
  have kK := Lib.hid (Keys_is (c := c) HC3.out.mem (r := r) (R := []) (e := 1) (.inl ⟨HBad.out, rfl, rfl⟩))
  simp only [List.length_nil] at kK
  go_wp2_with fail
  with_reducible refine kK.out.mono ?_
  rintro e w4 ⟨C4, k4, rfl, own4, hb⟩
  have HC4 := Lib.hid (HC3.out.gr' hb)
  have K4 := Lib.hid own4.mem
  clear hb f0 f1 kK HC3 own4
  have f0 := (HC4.out.b0.at_ (k := 0) rfl).1
  have f1 := (HC4.out.b0.at_ (k := 1) rfl).1
  have kR := Lib.hid (rRight_is (c := c) HC4.out.mem hm70 (r := r) (v := false) ⟨fun h => (by cases h), fun h => absurd h HBad.out⟩)
  have kKy := Lib.hid (fun W => rKey_is x (v := true) ⟨fun _ => HX.out, fun _ => rfl⟩ W)
  go_wp2_with fail
  with_reducible refine kR.out.mono ?_
  rintro e w5 ⟨rfl, hb⟩
  have HC5 := Lib.hid (HC4.out.gr' hb)
  have K5 := Lib.hid (K4.out.gr hb)
  clear hb f0 f1 kR HC4 K4
  have f0 := (HC5.out.b0.at_ (k := 0) rfl).1
  have f1 := (HC5.out.b0.at_ (k := 1) rfl).1
  go_wp2_with fail
  with_reducible refine (kKy.out _).mono ?_
  rintro e w6 ⟨rfl, rfl⟩
  go_wp2_with fail
  with_reducible refine (kRx.out _).mono ?_
  rintro e w6 ⟨rfl, rfl⟩
  have kTR := Lib.hid (Right_is (c := c) HC5.out.mem (r := r) (v := false) ⟨fun h => (by cases h), fun h => absurd h HBad.out⟩)
  go_wp2_with fail
  with_reducible refine kTR.out.mono ?_
  rintro e w7 ⟨rfl, hb⟩
  have HC7 := Lib.hid (HC5.out.gr' hb)
  have K7 := Lib.hid (K5.out.gr hb)
  clear hb f0 f1 kTR HC5 K5
  go_wp2_with fail
  with_reducible refine (kPx.out _).mono ?_
  rintro e w8 ⟨rfl, rfl⟩
  go_wp2_with fail
  with_reducible refine (kal.out _).mono ?_
  rintro e w9 ⟨rfl, hb⟩
  have HC9 := Lib.hid (HC7.out.gr' hb)
  have K9 := Lib.hid (K7.out.gr hb)
  clear hb HC7 K7
  have f0 := (HC9.out.b0.at_ (k := 0) rfl).1
  have f1 := (HC9.out.b0.at_ (k := 1) rfl).1
  go_wp2_with fail
  go_ret
  exact ⟨rfl, HC9.out.gr⟩

set_option maxRecDepth 100000 in
set_option maxHeartbeats 8000000 in
theorem tells_nokey (hc : n ≤ c) (hn : c ≤ 9223372036854775807) (hm : NMem w A n l) (hmn : (70 < n ∧ m = 70) ∨ (n ≤ 70 ∧ m = n)) (hmle : m ≤ n) (hm70 : m ≤ 70) (hg : Good (l.take m) r t) (hx : ¬ IsKey x) :
    Calls Try.prog 3 #[.agg #[.int .i64 r, .slice A n c], .int .i64 x] w fun e w' => e = .returned (.bool true) ∧ Gr w w' := by
  have c1 := Lib.hid (few_ok r A n c m hc hn hmn (w.alloc (.cells #[.int .i64 r, .slice A n c] 24)))
  have hal := fun W => alive_ok W
  have kal := Lib.hid hal
  have HM := Lib.hid hm
  have BB := Blk.new w #[.int .i64 r, .slice A n c] 24
  have HG := Lib.hid hg
  have HX := Lib.hid hx
  clear hg hx
  have hPx := fun W => Pri_is x W
  rw [prf_no HX.out] at hPx
  have kPx := Lib.hid hPx
  clear hal hm hmn hPx
  go_enter Try.func3, Try.ntmps3
  go_wp2_with fail
  with_reducible refine c1.out.mono ?_
  rintro e w1 ⟨rfl, hb1⟩
  have HC0 := Lib.hid (cut_new HM.out hmle hb1)
  obtain ⟨p0, z0⟩ := (BB.gr hb1).at_ (k := 0) rfl
  obtain ⟨p1, z1⟩ := (BB.gr hb1).at_ (k := 1) rfl
  clear c1 hb1 BB
  go_wp2_with fail
  have f0 := (HC0.out.b0.at_ (k := 0) rfl).1
  have f1 := (HC0.out.b0.at_ (k := 1) rfl).1
  clear p0 p1 z0 z1
  generalize (w1.setCell _ _).setCell _ _ = W0 at *
  have kF := Lib.hid (Find_is (c := c) HC0.out.mem (x := x) (r := r) (d := 0) (e := 1) (.inl ⟨HX.out, rfl, rfl⟩))
  go_wp2_with fail
  with_reducible refine kF.out.mono ?_
  rintro e w2 ⟨rfl, hb⟩
  have HC2 := Lib.hid (HC0.out.gr' hb)
  clear hb f0 f1 kF HC0
  have f0 := (HC2.out.b0.at_ (k := 0) rfl).1
  have f1 := (HC2.out.b0.at_ (k := 1) rfl).1
  have kN := Lib.hid (Next_is (c := c) HC2.out.mem (x := x) (r := r) (d := 0) (e := 1) (.inl ⟨HX.out, rfl, rfl⟩))
  go_wp2_with fail
  with_reducible refine kN.out.mono ?_
  rintro e w3 ⟨rfl, hb⟩
  have HC3 := Lib.hid (HC2.out.gr' hb)
  clear hb f0 f1 kN HC2
  have f0 := (HC3.out.b0.at_ (k := 0) rfl).1
  have f1 := (HC3.out.b0.at_ (k := 1) rfl).1
  have kK := Lib.hid (Keys_is (c := c) HC3.out.mem (r := r) (.inr ⟨t, HG.out, rfl, rfl⟩))
  have hlk : t.inord.length = m := by rw [T.inord_len, HG.out.2.1, HC3.out.mem.1]
  rw [hlk] at kK
  go_wp2_with fail
  with_reducible refine kK.out.mono ?_
  rintro e w4 ⟨C4, k4, rfl, own4, hb⟩
  have HC4 := Lib.hid (HC3.out.gr' hb)
  have K4 := Lib.hid own4.mem
  clear hb f0 f1 kK HC3 own4
  have f0 := (HC4.out.b0.at_ (k := 0) rfl).1
  have f1 := (HC4.out.b0.at_ (k := 1) rfl).1
  have kR := Lib.hid (rRight_is (c := c) HC4.out.mem hm70 (r := r) (v := true) ⟨fun _ => ⟨t, HG.out⟩, fun _ => rfl⟩)
  have kKy := Lib.hid (fun W => rKey_is x (v := false) ⟨fun h => (by cases h), fun h => absurd h HX.out⟩ W)
  go_wp2_with fail
  with_reducible refine kR.out.mono ?_
  rintro e w5 ⟨rfl, hb⟩
  have HC5 := Lib.hid (HC4.out.gr' hb)
  have K5 := Lib.hid (K4.out.gr hb)
  clear hb f0 f1 kR HC4 K4
  have f0 := (HC5.out.b0.at_ (k := 0) rfl).1
  have f1 := (HC5.out.b0.at_ (k := 1) rfl).1
  go_wp2_with fail
  with_reducible refine (kKy.out _).mono ?_
  rintro e w6 ⟨rfl, rfl⟩
  have kTR := Lib.hid (Right_is (c := c) HC5.out.mem (r := r) (v := true) ⟨fun _ => ⟨t, HG.out⟩, fun _ => rfl⟩)
  go_wp2_with fail
  with_reducible refine kTR.out.mono ?_
  rintro e w7 ⟨rfl, hb⟩
  have HC7 := Lib.hid (HC5.out.gr' hb)
  have K7 := Lib.hid (K5.out.gr hb)
  clear hb f0 f1 kTR HC5 K5
  go_wp2_with fail
  with_reducible refine (kPx.out _).mono ?_
  rintro e w8 ⟨rfl, rfl⟩
  go_wp2_with fail
  with_reducible refine (kal.out _).mono ?_
  rintro e w9 ⟨rfl, hb⟩
  have HC9 := Lib.hid (HC7.out.gr' hb)
  have K9 := Lib.hid (K7.out.gr hb)
  clear hb HC7 K7
  have f0 := (HC9.out.b0.at_ (k := 0) rfl).1
  have f1 := (HC9.out.b0.at_ (k := 1) rfl).1
  have kKs := Lib.hid (rKeys_is (c := c) HC9.out.mem HG.out)
  go_wp2_with fail
  with_reducible refine kKs.out.mono ?_
  rintro e w10 ⟨C, k10, rfl, own, hb⟩
  have G10 := Lib.hid (HC9.out.gr.trans hb)
  have k10a := own.le
  have k10b : k10 ≤ 9223372036854775807 := by have := own.max; unfold maxLen at this; omega
  have kS := Lib.hid (rSame_is (c := k4) (d := k10) (K9.out.gr hb) own.mem (by omega) (by omega) (v := true) ⟨fun _ => rfl, fun _ => rfl⟩)
  have K10 := Lib.hid own.mem
  clear hb own kKs f0 f1 HC9 K9
  go_wp2_with fail
  with_reducible refine kS.out.mono ?_
  rintro e w11 ⟨rfl, hb⟩
  have G11 := Lib.hid (G10.out.trans hb)
  have K11 := Lib.hid (K10.out.gr hb)
  clear hb kS K10 G10
  go_wp2_with fail
  with_reducible refine (kKy.out _).mono ?_
  rintro e w12 ⟨rfl, rfl⟩
  go_wp2_with fail
  go_ret
  exact ⟨rfl, G11.out⟩

set_option maxRecDepth 100000 in
set_option maxHeartbeats 8000000 in
theorem tells_key_none_in (hc : n ≤ c) (hn : c ≤ 9223372036854775807) (hm : NMem w A n l) (hmn : (70 < n ∧ m = 70) ∨ (n ≤ 70 ∧ m = n)) (hmle : m ≤ n) (hm70 : m ≤ 70) (hg : Good (l.take m) r t) (hx : IsKey x) (hnx : ∀ y ∈ t.inord, y < x) (hin : x ∈ t.inord) :
    Calls Try.prog 3 #[.agg #[.int .i64 r, .slice A n c], .int .i64 x] w fun e w' => e = .returned (.bool true) ∧ Gr w w' := by
  have c1 := Lib.hid (few_ok r A n c m hc hn hmn (w.alloc (.cells #[.int .i64 r, .slice A n c] 24)))
  have hal := fun W => alive_ok W
  have kal := Lib.hid hal
  have HM := Lib.hid hm
  have BB := Blk.new w #[.int .i64 r, .slice A n c] 24
  have HG := Lib.hid hg
  have HX := Lib.hid hx
  clear hg hx
  have HI := Lib.hid hin
  clear hin
  have HNX := Lib.hid hnx
  clear hnx
  obtain ⟨d0, hd0⟩ : ∃ d0 : Int, (dpt t x : Int) = d0 := ⟨_, rfl⟩
  have HD := Lib.hid hd0
  clear hd0
  have hPx := fun W => Pri_is x W
  have hRx := fun W => rPri_is HX.out W
  rw [prf_key HX.out] at hPx
  generalize pri x = px at *
  have kRx := Lib.hid hRx
  have kPx := Lib.hid hPx
  clear hRx
  clear hal hm hmn hPx
  go_enter Try.func3, Try.ntmps3
  go_wp2_with fail
  with_reducible refine c1.out.mono ?_
  rintro e w1 ⟨rfl, hb1⟩
  have HC0 := Lib.hid (cut_new HM.out hmle hb1)
  obtain ⟨p0, z0⟩ := (BB.gr hb1).at_ (k := 0) rfl
  obtain ⟨p1, z1⟩ := (BB.gr hb1).at_ (k := 1) rfl
  clear c1 hb1 BB
  go_wp2_with fail
  have f0 := (HC0.out.b0.at_ (k := 0) rfl).1
  have f1 := (HC0.out.b0.at_ (k := 1) rfl).1
  clear p0 p1 z0 z1
  generalize (w1.setCell _ _).setCell _ _ = W0 at *
  have kF := Lib.hid (Find_is (c := c) HC0.out.mem (x := x) (r := r) (d := d0) (e := 0) (.inr (.inr ⟨HX.out, t, HG.out, .inr ⟨HI.out, HD.out.symm, rfl⟩⟩)))
  go_wp2_with fail
  with_reducible refine kF.out.mono ?_
  rintro e w2 ⟨rfl, hb⟩
  have HC2 := Lib.hid (HC0.out.gr' hb)
  clear hb f0 f1 kF HC0
  have f0 := (HC2.out.b0.at_ (k := 0) rfl).1
  have f1 := (HC2.out.b0.at_ (k := 1) rfl).1
  have kN := Lib.hid (Next_is (c := c) HC2.out.mem (x := x) (r := r) (d := 0) (e := 4) (.inr (.inr ⟨HX.out, t, HG.out, .inl ⟨List.find?_eq_none.2 (fun y hy => by have := HNX.out y hy; simp; omega), rfl, rfl⟩⟩)))
  go_wp2_with fail
  with_reducible refine kN.out.mono ?_
  rintro e w3 ⟨rfl, hb⟩
  have HC3 := Lib.hid (HC2.out.gr' hb)
  clear hb f0 f1 kN HC2
  have f0 := (HC3.out.b0.at_ (k := 0) rfl).1
  have f1 := (HC3.out.b0.at_ (k := 1) rfl).1
  have kK := Lib.hid (Keys_is (c := c) HC3.out.mem (r := r) (.inr ⟨t, HG.out, rfl, rfl⟩))
  have hlk : t.inord.length = m := by rw [T.inord_len, HG.out.2.1, HC3.out.mem.1]
  rw [hlk] at kK
  go_wp2_with fail
  with_reducible refine kK.out.mono ?_
  rintro e w4 ⟨C4, k4, rfl, own4, hb⟩
  have HC4 := Lib.hid (HC3.out.gr' hb)
  have K4 := Lib.hid own4.mem
  clear hb f0 f1 kK HC3 own4
  have f0 := (HC4.out.b0.at_ (k := 0) rfl).1
  have f1 := (HC4.out.b0.at_ (k := 1) rfl).1
  have kR := Lib.hid (rRight_is (c := c) HC4.out.mem hm70 (r := r) (v := true) ⟨fun _ => ⟨t, HG.out⟩, fun _ => rfl⟩)
  have kKy := Lib.hid (fun W => rKey_is x (v := true) ⟨fun _ => HX.out, fun _ => rfl⟩ W)
  go_wp2_with fail
  with_reducible refine kR.out.mono ?_
  rintro e w5 ⟨rfl, hb⟩
  have HC5 := Lib.hid (HC4.out.gr' hb)
  have K5 := Lib.hid (K4.out.gr hb)
  clear hb f0 f1 kR HC4 K4
  have f0 := (HC5.out.b0.at_ (k := 0) rfl).1
  have f1 := (HC5.out.b0.at_ (k := 1) rfl).1
  go_wp2_with fail
  with_reducible refine (kKy.out _).mono ?_
  rintro e w6 ⟨rfl, rfl⟩
  go_wp2_with fail
  with_reducible refine (kRx.out _).mono ?_
  rintro e w6 ⟨rfl, rfl⟩
  have kTR := Lib.hid (Right_is (c := c) HC5.out.mem (r := r) (v := true) ⟨fun _ => ⟨t, HG.out⟩, fun _ => rfl⟩)
  go_wp2_with fail
  with_reducible refine kTR.out.mono ?_
  rintro e w7 ⟨rfl, hb⟩
  have HC7 := Lib.hid (HC5.out.gr' hb)
  have K7 := Lib.hid (K5.out.gr hb)
  clear hb f0 f1 kTR HC5 K5
  go_wp2_with fail
  with_reducible refine (kPx.out _).mono ?_
  rintro e w8 ⟨rfl, rfl⟩
  go_wp2_with fail
  with_reducible refine (kal.out _).mono ?_
  rintro e w9 ⟨rfl, hb⟩
  have HC9 := Lib.hid (HC7.out.gr' hb)
  have K9 := Lib.hid (K7.out.gr hb)
  clear hb HC7 K7
  have f0 := (HC9.out.b0.at_ (k := 0) rfl).1
  have f1 := (HC9.out.b0.at_ (k := 1) rfl).1
  have kKs := Lib.hid (rKeys_is (c := c) HC9.out.mem HG.out)
  go_wp2_with fail
  with_reducible refine kKs.out.mono ?_
  rintro e w10 ⟨C, k10, rfl, own, hb⟩
  have G10 := Lib.hid (HC9.out.gr.trans hb)
  have k10a := own.le
  have k10b : k10 ≤ 9223372036854775807 := by have := own.max; unfold maxLen at this; omega
  have kS := Lib.hid (rSame_is (c := k4) (d := k10) (K9.out.gr hb) own.mem (by omega) (by omega) (v := true) ⟨fun _ => rfl, fun _ => rfl⟩)
  have K10 := Lib.hid own.mem
  clear hb own kKs f0 f1 HC9 K9
  go_wp2_with fail
  with_reducible refine kS.out.mono ?_
  rintro e w11 ⟨rfl, hb⟩
  have G11 := Lib.hid (G10.out.trans hb)
  have K11 := Lib.hid (K10.out.gr hb)
  clear hb kS K10 G10
  go_wp2_with fail
  with_reducible refine (kKy.out _).mono ?_
  rintro e w12 ⟨rfl, rfl⟩
  have kNx := Lib.hid (rNext_no (c := k10) K11.out (by omega) HNX.out)
  go_wp2_with fail
  with_reducible refine kNx.out.mono ?_
  rintro e w13 ⟨rfl, rfl⟩
  obtain ⟨pp, hpp, hpl⟩ := rPlace_any (c := k10) K11.out (by omega) x
  have kPl := Lib.hid hpl
  have hpp0 : ¬ pp < 0 := fun h => hpp.1 h HI.out
  have kD := Lib.hid (rDepth_is t (-1) 4294967296 4294967296 x _ m k10 _ HG.out.2.2.2.1 HG.out.2.2.2.2 (fun y hy => HG.out.isKey hy) HI.out (by have := HG.out.2.1; have := HG.out.2.2.1; omega) K11.out k10a k10b)
  rw [HD.out] at kD
  clear hpp hpl
  go_wp2_with fail
  with_reducible refine kPl.out.mono ?_
  rintro e w14 ⟨rfl, rfl⟩
  go_wp2_with fail
  with_reducible refine kD.out.mono ?_
  rintro e w15 ⟨rfl, hb15⟩
  go_wp2_with fail
  go_ret
  exact ⟨rfl, G11.out.trans hb15⟩

set_option maxRecDepth 100000 in
set_option maxHeartbeats 8000000 in
theorem tells_key_none_out (hc : n ≤ c) (hn : c ≤ 9223372036854775807) (hm : NMem w A n l) (hmn : (70 < n ∧ m = 70) ∨ (n ≤ 70 ∧ m = n)) (hmle : m ≤ n) (hm70 : m ≤ 70) (hg : Good (l.take m) r t) (hx : IsKey x) (hnx : ∀ y ∈ t.inord, y < x) (hin : x ∉ t.inord) :
    Calls Try.prog 3 #[.agg #[.int .i64 r, .slice A n c], .int .i64 x] w fun e w' => e = .returned (.bool true) ∧ Gr w w' := by
  have c1 := Lib.hid (few_ok r A n c m hc hn hmn (w.alloc (.cells #[.int .i64 r, .slice A n c] 24)))
  have hal := fun W => alive_ok W
  have kal := Lib.hid hal
  have HM := Lib.hid hm
  have BB := Blk.new w #[.int .i64 r, .slice A n c] 24
  have HG := Lib.hid hg
  have HX := Lib.hid hx
  clear hg hx
  have HI := Lib.hid hin
  clear hin
  have HNX := Lib.hid hnx
  clear hnx
  have hPx := fun W => Pri_is x W
  have hRx := fun W => rPri_is HX.out W
  rw [prf_key HX.out] at hPx
  generalize pri x = px at *
  have kRx := Lib.hid hRx
  have kPx := Lib.hid hPx
  clear hRx
  clear hal hm hmn hPx
  go_enter Try.func3, Try.ntmps3
  go_wp2_with fail
  with_reducible refine c1.out.mono ?_
  rintro e w1 ⟨rfl, hb1⟩
  have HC0 := Lib.hid (cut_new HM.out hmle hb1)
  obtain ⟨p0, z0⟩ := (BB.gr hb1).at_ (k := 0) rfl
  obtain ⟨p1, z1⟩ := (BB.gr hb1).at_ (k := 1) rfl
  clear c1 hb1 BB
  go_wp2_with fail
  have f0 := (HC0.out.b0.at_ (k := 0) rfl).1
  have f1 := (HC0.out.b0.at_ (k := 1) rfl).1
  clear p0 p1 z0 z1
  generalize (w1.setCell _ _).setCell _ _ = W0 at *
  have kF := Lib.hid (Find_is (c := c) HC0.out.mem (x := x) (r := r) (d := 0) (e := 4) (.inr (.inr ⟨HX.out, t, HG.out, .inl ⟨HI.out, rfl, rfl⟩⟩)))
  go_wp2_with fail
  with_reducible refine kF.out.mono ?_
  rintro e w2 ⟨rfl, hb⟩
  have HC2 := Lib.hid (HC0.out.gr' hb)
  clear hb f0 f1 kF HC0
  have f0 := (HC2.out.b0.at_ (k := 0) rfl).1
  have f1 := (HC2.out.b0.at_ (k := 1) rfl).1
  have kN := Lib.hid (Next_is (c := c) HC2.out.mem (x := x) (r := r) (d := 0) (e := 4) (.inr (.inr ⟨HX.out, t, HG.out, .inl ⟨List.find?_eq_none.2 (fun y hy => by have := HNX.out y hy; simp; omega), rfl, rfl⟩⟩)))
  go_wp2_with fail
  with_reducible refine kN.out.mono ?_
  rintro e w3 ⟨rfl, hb⟩
  have HC3 := Lib.hid (HC2.out.gr' hb)
  clear hb f0 f1 kN HC2
  have f0 := (HC3.out.b0.at_ (k := 0) rfl).1
  have f1 := (HC3.out.b0.at_ (k := 1) rfl).1
  have kK := Lib.hid (Keys_is (c := c) HC3.out.mem (r := r) (.inr ⟨t, HG.out, rfl, rfl⟩))
  have hlk : t.inord.length = m := by rw [T.inord_len, HG.out.2.1, HC3.out.mem.1]
  rw [hlk] at kK
  go_wp2_with fail
  with_reducible refine kK.out.mono ?_
  rintro e w4 ⟨C4, k4, rfl, own4, hb⟩
  have HC4 := Lib.hid (HC3.out.gr' hb)
  have K4 := Lib.hid own4.mem
  clear hb f0 f1 kK HC3 own4
  have f0 := (HC4.out.b0.at_ (k := 0) rfl).1
  have f1 := (HC4.out.b0.at_ (k := 1) rfl).1
  have kR := Lib.hid (rRight_is (c := c) HC4.out.mem hm70 (r := r) (v := true) ⟨fun _ => ⟨t, HG.out⟩, fun _ => rfl⟩)
  have kKy := Lib.hid (fun W => rKey_is x (v := true) ⟨fun _ => HX.out, fun _ => rfl⟩ W)
  go_wp2_with fail
  with_reducible refine kR.out.mono ?_
  rintro e w5 ⟨rfl, hb⟩
  have HC5 := Lib.hid (HC4.out.gr' hb)
  have K5 := Lib.hid (K4.out.gr hb)
  clear hb f0 f1 kR HC4 K4
  have f0 := (HC5.out.b0.at_ (k := 0) rfl).1
  have f1 := (HC5.out.b0.at_ (k := 1) rfl).1
  go_wp2_with fail
  with_reducible refine (kKy.out _).mono ?_
  rintro e w6 ⟨rfl, rfl⟩
  go_wp2_with fail
  with_reducible refine (kRx.out _).mono ?_
  rintro e w6 ⟨rfl, rfl⟩
  have kTR := Lib.hid (Right_is (c := c) HC5.out.mem (r := r) (v := true) ⟨fun _ => ⟨t, HG.out⟩, fun _ => rfl⟩)
  go_wp2_with fail
  with_reducible refine kTR.out.mono ?_
  rintro e w7 ⟨rfl, hb⟩
  have HC7 := Lib.hid (HC5.out.gr' hb)
  have K7 := Lib.hid (K5.out.gr hb)
  clear hb f0 f1 kTR HC5 K5
  go_wp2_with fail
  with_reducible refine (kPx.out _).mono ?_
  rintro e w8 ⟨rfl, rfl⟩
  go_wp2_with fail
  with_reducible refine (kal.out _).mono ?_
  rintro e w9 ⟨rfl, hb⟩
  have HC9 := Lib.hid (HC7.out.gr' hb)
  have K9 := Lib.hid (K7.out.gr hb)
  clear hb HC7 K7
  have f0 := (HC9.out.b0.at_ (k := 0) rfl).1
  have f1 := (HC9.out.b0.at_ (k := 1) rfl).1
  have kKs := Lib.hid (rKeys_is (c := c) HC9.out.mem HG.out)
  go_wp2_with fail
  with_reducible refine kKs.out.mono ?_
  rintro e w10 ⟨C, k10, rfl, own, hb⟩
  have G10 := Lib.hid (HC9.out.gr.trans hb)
  have k10a := own.le
  have k10b : k10 ≤ 9223372036854775807 := by have := own.max; unfold maxLen at this; omega
  have kS := Lib.hid (rSame_is (c := k4) (d := k10) (K9.out.gr hb) own.mem (by omega) (by omega) (v := true) ⟨fun _ => rfl, fun _ => rfl⟩)
  have K10 := Lib.hid own.mem
  clear hb own kKs f0 f1 HC9 K9
  go_wp2_with fail
  with_reducible refine kS.out.mono ?_
  rintro e w11 ⟨rfl, hb⟩
  have G11 := Lib.hid (G10.out.trans hb)
  have K11 := Lib.hid (K10.out.gr hb)
  clear hb kS K10 G10
  go_wp2_with fail
  with_reducible refine (kKy.out _).mono ?_
  rintro e w12 ⟨rfl, rfl⟩
  have kNx := Lib.hid (rNext_no (c := k10) K11.out (by omega) HNX.out)
  go_wp2_with fail
  with_reducible refine kNx.out.mono ?_
  rintro e w13 ⟨rfl, rfl⟩
  obtain ⟨pp, hpp, hpl⟩ := rPlace_any (c := k10) K11.out (by omega) x
  have kPl := Lib.hid hpl
  have hpp0 : pp < 0 := hpp.2 HI.out
  clear hpp hpl
  go_wp2_with fail
  with_reducible refine kPl.out.mono ?_
  rintro e w14 ⟨rfl, rfl⟩
  go_wp2_with fail
  go_ret
  exact ⟨rfl, G11.out⟩

set_option maxRecDepth 100000 in
set_option maxHeartbeats 8000000 in
theorem tells_key_some_in (hc : n ≤ c) (hn : c ≤ 9223372036854775807) (hm : NMem w A n l) (hmn : (70 < n ∧ m = 70) ∨ (n ≤ 70 ∧ m = n)) (hmle : m ≤ n) (hm70 : m ≤ 70) (hg : Good (l.take m) r t) (hx : IsKey x) {z : Int} {p : Nat} (hp : t.inord[p]? = some z) (hz : x ≤ z) (hf : ∀ j y, j < p → t.inord[j]? = some y → y < x) (hin : x ∈ t.inord) :
    Calls Try.prog 3 #[.agg #[.int .i64 r, .slice A n c], .int .i64 x] w fun e w' => e = .returned (.bool true) ∧ Gr w w' := by
  have c1 := Lib.hid (few_ok r A n c m hc hn hmn (w.alloc (.cells #[.int .i64 r, .slice A n c] 24)))
  have hal := fun W => alive_ok W
  have kal := Lib.hid hal
  have HM := Lib.hid hm
  have BB := Blk.new w #[.int .i64 r, .slice A n c] 24
  have HG := Lib.hid hg
  have HX := Lib.hid hx
  clear hg hx
  have HI := Lib.hid hin
  clear hin
  have HFI := Lib.hid (show t.inord.find? (fun k => decide (x ≤ k)) = some z from by
    obtain ⟨h1, h2⟩ := List.getElem?_eq_some_iff.1 hp
    rw [List.find?_eq_some_iff_getElem]
    refine ⟨decide_eq_true hz, p, h1, h2, fun j hj => ?_⟩
    have := hf j t.inord[j] hj (List.getElem?_eq_getElem (by omega))
    simp
    omega)
  have HPP := Lib.hid hp
  have HPZ := Lib.hid hz
  have HPF := Lib.hid hf
  clear hp hz hf
  obtain ⟨d0, hd0⟩ : ∃ d0 : Int, (dpt t x : Int) = d0 := ⟨_, rfl⟩
  have HD := Lib.hid hd0
  clear hd0
  have hPx := fun W => Pri_is x W
  have hRx := fun W => rPri_is HX.out W
  rw [prf_key HX.out] at hPx
  generalize pri x = px at *
  have kRx := Lib.hid hRx
  have kPx := Lib.hid hPx
  clear hRx
  clear hal hm hmn hPx
  go_enter Try.func3, Try.ntmps3
  go_wp2_with fail
  with_reducible refine c1.out.mono ?_
  rintro e w1 ⟨rfl, hb1⟩
  have HC0 := Lib.hid (cut_new HM.out hmle hb1)
  obtain ⟨p0, z0⟩ := (BB.gr hb1).at_ (k := 0) rfl
  obtain ⟨p1, z1⟩ := (BB.gr hb1).at_ (k := 1) rfl
  clear c1 hb1 BB
  go_wp2_with fail
  have f0 := (HC0.out.b0.at_ (k := 0) rfl).1
  have f1 := (HC0.out.b0.at_ (k := 1) rfl).1
  clear p0 p1 z0 z1
  generalize (w1.setCell _ _).setCell _ _ = W0 at *
  have kF := Lib.hid (Find_is (c := c) HC0.out.mem (x := x) (r := r) (d := d0) (e := 0) (.inr (.inr ⟨HX.out, t, HG.out, .inr ⟨HI.out, HD.out.symm, rfl⟩⟩)))
  go_wp2_with fail
  with_reducible refine kF.out.mono ?_
  rintro e w2 ⟨rfl, hb⟩
  have HC2 := Lib.hid (HC0.out.gr' hb)
  clear hb f0 f1 kF HC0
  have f0 := (HC2.out.b0.at_ (k := 0) rfl).1
  have f1 := (HC2.out.b0.at_ (k := 1) rfl).1
  have kN := Lib.hid (Next_is (c := c) HC2.out.mem (x := x) (r := r) (d := z) (e := 0) (.inr (.inr ⟨HX.out, t, HG.out, .inr ⟨HFI.out, rfl⟩⟩)))
  go_wp2_with fail
  with_reducible refine kN.out.mono ?_
  rintro e w3 ⟨rfl, hb⟩
  have HC3 := Lib.hid (HC2.out.gr' hb)
  clear hb f0 f1 kN HC2
  have f0 := (HC3.out.b0.at_ (k := 0) rfl).1
  have f1 := (HC3.out.b0.at_ (k := 1) rfl).1
  have kK := Lib.hid (Keys_is (c := c) HC3.out.mem (r := r) (.inr ⟨t, HG.out, rfl, rfl⟩))
  have hlk : t.inord.length = m := by rw [T.inord_len, HG.out.2.1, HC3.out.mem.1]
  rw [hlk] at kK
  go_wp2_with fail
  with_reducible refine kK.out.mono ?_
  rintro e w4 ⟨C4, k4, rfl, own4, hb⟩
  have HC4 := Lib.hid (HC3.out.gr' hb)
  have K4 := Lib.hid own4.mem
  clear hb f0 f1 kK HC3 own4
  have f0 := (HC4.out.b0.at_ (k := 0) rfl).1
  have f1 := (HC4.out.b0.at_ (k := 1) rfl).1
  have kR := Lib.hid (rRight_is (c := c) HC4.out.mem hm70 (r := r) (v := true) ⟨fun _ => ⟨t, HG.out⟩, fun _ => rfl⟩)
  have kKy := Lib.hid (fun W => rKey_is x (v := true) ⟨fun _ => HX.out, fun _ => rfl⟩ W)
  go_wp2_with fail
  with_reducible refine kR.out.mono ?_
  rintro e w5 ⟨rfl, hb⟩
  have HC5 := Lib.hid (HC4.out.gr' hb)
  have K5 := Lib.hid (K4.out.gr hb)
  clear hb f0 f1 kR HC4 K4
  have f0 := (HC5.out.b0.at_ (k := 0) rfl).1
  have f1 := (HC5.out.b0.at_ (k := 1) rfl).1
  go_wp2_with fail
  with_reducible refine (kKy.out _).mono ?_
  rintro e w6 ⟨rfl, rfl⟩
  go_wp2_with fail
  with_reducible refine (kRx.out _).mono ?_
  rintro e w6 ⟨rfl, rfl⟩
  have kTR := Lib.hid (Right_is (c := c) HC5.out.mem (r := r) (v := true) ⟨fun _ => ⟨t, HG.out⟩, fun _ => rfl⟩)
  go_wp2_with fail
  with_reducible refine kTR.out.mono ?_
  rintro e w7 ⟨rfl, hb⟩
  have HC7 := Lib.hid (HC5.out.gr' hb)
  have K7 := Lib.hid (K5.out.gr hb)
  clear hb f0 f1 kTR HC5 K5
  go_wp2_with fail
  with_reducible refine (kPx.out _).mono ?_
  rintro e w8 ⟨rfl, rfl⟩
  go_wp2_with fail
  with_reducible refine (kal.out _).mono ?_
  rintro e w9 ⟨rfl, hb⟩
  have HC9 := Lib.hid (HC7.out.gr' hb)
  have K9 := Lib.hid (K7.out.gr hb)
  clear hb HC7 K7
  have f0 := (HC9.out.b0.at_ (k := 0) rfl).1
  have f1 := (HC9.out.b0.at_ (k := 1) rfl).1
  have kKs := Lib.hid (rKeys_is (c := c) HC9.out.mem HG.out)
  go_wp2_with fail
  with_reducible refine kKs.out.mono ?_
  rintro e w10 ⟨C, k10, rfl, own, hb⟩
  have G10 := Lib.hid (HC9.out.gr.trans hb)
  have k10a := own.le
  have k10b : k10 ≤ 9223372036854775807 := by have := own.max; unfold maxLen at this; omega
  have kS := Lib.hid (rSame_is (c := k4) (d := k10) (K9.out.gr hb) own.mem (by omega) (by omega) (v := true) ⟨fun _ => rfl, fun _ => rfl⟩)
  have K10 := Lib.hid own.mem
  clear hb own kKs f0 f1 HC9 K9
  go_wp2_with fail
  with_reducible refine kS.out.mono ?_
  rintro e w11 ⟨rfl, hb⟩
  have G11 := Lib.hid (G10.out.trans hb)
  have K11 := Lib.hid (K10.out.gr hb)
  clear hb kS K10 G10
  go_wp2_with fail
  with_reducible refine (kKy.out _).mono ?_
  rintro e w12 ⟨rfl, rfl⟩
  have kNx := Lib.hid (rNext_at (c := k10) K11.out (by omega) HPP.out HPZ.out HPF.out)
  have hpm : p < m := by have := (List.getElem?_eq_some_iff.1 HPP.out).1; rw [K11.out.1] at this; exact this
  obtain ⟨b9, o9, z9, hC9, hbl9, hz9, hi9, cz9⟩ := K11.out.at_ hpm
  rw [HPP.out] at hz9
  cases hz9
  subst hC9
  have e1 : (0 : Int) ≤ (p : Int) := by omega
  have e2 : (p : Int) < (m : Int) := by omega
  have e3 : ¬ (p : Int) < 0 := by omega
  go_wp2_with fail
  with_reducible refine kNx.out.mono ?_
  rintro e w13 ⟨rfl, rfl⟩
  obtain ⟨pp, hpp, hpl⟩ := rPlace_any (c := k10) K11.out (by omega) x
  have kPl := Lib.hid hpl
  have hpp0 : ¬ pp < 0 := fun h => hpp.1 h HI.out
  have kD := Lib.hid (rDepth_is t (-1) 4294967296 4294967296 x _ m k10 _ HG.out.2.2.2.1 HG.out.2.2.2.2 (fun y hy => HG.out.isKey hy) HI.out (by have := HG.out.2.1; have := HG.out.2.2.1; omega) K11.out k10a k10b)
  rw [HD.out] at kD
  clear hpp hpl
  go_wp2_with fail
  with_reducible refine kPl.out.mono ?_
  rintro e w14 ⟨rfl, rfl⟩
  go_wp2_with fail
  with_reducible refine kD.out.mono ?_
  rintro e w15 ⟨rfl, hb15⟩
  go_wp2_with fail
  go_ret
  exact ⟨rfl, G11.out.trans hb15⟩

set_option maxRecDepth 100000 in
set_option maxHeartbeats 8000000 in
theorem tells_key_some_out (hc : n ≤ c) (hn : c ≤ 9223372036854775807) (hm : NMem w A n l) (hmn : (70 < n ∧ m = 70) ∨ (n ≤ 70 ∧ m = n)) (hmle : m ≤ n) (hm70 : m ≤ 70) (hg : Good (l.take m) r t) (hx : IsKey x) {z : Int} {p : Nat} (hp : t.inord[p]? = some z) (hz : x ≤ z) (hf : ∀ j y, j < p → t.inord[j]? = some y → y < x) (hin : x ∉ t.inord) :
    Calls Try.prog 3 #[.agg #[.int .i64 r, .slice A n c], .int .i64 x] w fun e w' => e = .returned (.bool true) ∧ Gr w w' := by
  have c1 := Lib.hid (few_ok r A n c m hc hn hmn (w.alloc (.cells #[.int .i64 r, .slice A n c] 24)))
  have hal := fun W => alive_ok W
  have kal := Lib.hid hal
  have HM := Lib.hid hm
  have BB := Blk.new w #[.int .i64 r, .slice A n c] 24
  have HG := Lib.hid hg
  have HX := Lib.hid hx
  clear hg hx
  have HI := Lib.hid hin
  clear hin
  have HFI := Lib.hid (show t.inord.find? (fun k => decide (x ≤ k)) = some z from by
    obtain ⟨h1, h2⟩ := List.getElem?_eq_some_iff.1 hp
    rw [List.find?_eq_some_iff_getElem]
    refine ⟨decide_eq_true hz, p, h1, h2, fun j hj => ?_⟩
    have := hf j t.inord[j] hj (List.getElem?_eq_getElem (by omega))
    simp
    omega)
  have HPP := Lib.hid hp
  have HPZ := Lib.hid hz
  have HPF := Lib.hid hf
  clear hp hz hf
  have hPx := fun W => Pri_is x W
  have hRx := fun W => rPri_is HX.out W
  rw [prf_key HX.out] at hPx
  generalize pri x = px at *
  have kRx := Lib.hid hRx
  have kPx := Lib.hid hPx
  clear hRx
  clear hal hm hmn hPx
  go_enter Try.func3, Try.ntmps3
  go_wp2_with fail
  with_reducible refine c1.out.mono ?_
  rintro e w1 ⟨rfl, hb1⟩
  have HC0 := Lib.hid (cut_new HM.out hmle hb1)
  obtain ⟨p0, z0⟩ := (BB.gr hb1).at_ (k := 0) rfl
  obtain ⟨p1, z1⟩ := (BB.gr hb1).at_ (k := 1) rfl
  clear c1 hb1 BB
  go_wp2_with fail
  have f0 := (HC0.out.b0.at_ (k := 0) rfl).1
  have f1 := (HC0.out.b0.at_ (k := 1) rfl).1
  clear p0 p1 z0 z1
  generalize (w1.setCell _ _).setCell _ _ = W0 at *
  have kF := Lib.hid (Find_is (c := c) HC0.out.mem (x := x) (r := r) (d := 0) (e := 4) (.inr (.inr ⟨HX.out, t, HG.out, .inl ⟨HI.out, rfl, rfl⟩⟩)))
  go_wp2_with fail
  with_reducible refine kF.out.mono ?_
  rintro e w2 ⟨rfl, hb⟩
  have HC2 := Lib.hid (HC0.out.gr' hb)
  clear hb f0 f1 kF HC0
  have f0 := (HC2.out.b0.at_ (k := 0) rfl).1
  have f1 := (HC2.out.b0.at_ (k := 1) rfl).1
  have kN := Lib.hid (Next_is (c := c) HC2.out.mem (x := x) (r := r) (d := z) (e := 0) (.inr (.inr ⟨HX.out, t, HG.out, .inr ⟨HFI.out, rfl⟩⟩)))
  go_wp2_with fail
  with_reducible refine kN.out.mono ?_
  rintro e w3 ⟨rfl, hb⟩
  have HC3 := Lib.hid (HC2.out.gr' hb)
  clear hb f0 f1 kN HC2
  have f0 := (HC3.out.b0.at_ (k := 0) rfl).1
  have f1 := (HC3.out.b0.at_ (k := 1) rfl).1
  have kK := Lib.hid (Keys_is (c := c) HC3.out.mem (r := r) (.inr ⟨t, HG.out, rfl, rfl⟩))
  have hlk : t.inord.length = m := by rw [T.inord_len, HG.out.2.1, HC3.out.mem.1]
  rw [hlk] at kK
  go_wp2_with fail
  with_reducible refine kK.out.mono ?_
  rintro e w4 ⟨C4, k4, rfl, own4, hb⟩
  have HC4 := Lib.hid (HC3.out.gr' hb)
  have K4 := Lib.hid own4.mem
  clear hb f0 f1 kK HC3 own4
  have f0 := (HC4.out.b0.at_ (k := 0) rfl).1
  have f1 := (HC4.out.b0.at_ (k := 1) rfl).1
  have kR := Lib.hid (rRight_is (c := c) HC4.out.mem hm70 (r := r) (v := true) ⟨fun _ => ⟨t, HG.out⟩, fun _ => rfl⟩)
  have kKy := Lib.hid (fun W => rKey_is x (v := true) ⟨fun _ => HX.out, fun _ => rfl⟩ W)
  go_wp2_with fail
  with_reducible refine kR.out.mono ?_
  rintro e w5 ⟨rfl, hb⟩
  have HC5 := Lib.hid (HC4.out.gr' hb)
  have K5 := Lib.hid (K4.out.gr hb)
  clear hb f0 f1 kR HC4 K4
  have f0 := (HC5.out.b0.at_ (k := 0) rfl).1
  have f1 := (HC5.out.b0.at_ (k := 1) rfl).1
  go_wp2_with fail
  with_reducible refine (kKy.out _).mono ?_
  rintro e w6 ⟨rfl, rfl⟩
  go_wp2_with fail
  with_reducible refine (kRx.out _).mono ?_
  rintro e w6 ⟨rfl, rfl⟩
  have kTR := Lib.hid (Right_is (c := c) HC5.out.mem (r := r) (v := true) ⟨fun _ => ⟨t, HG.out⟩, fun _ => rfl⟩)
  go_wp2_with fail
  with_reducible refine kTR.out.mono ?_
  rintro e w7 ⟨rfl, hb⟩
  have HC7 := Lib.hid (HC5.out.gr' hb)
  have K7 := Lib.hid (K5.out.gr hb)
  clear hb f0 f1 kTR HC5 K5
  go_wp2_with fail
  with_reducible refine (kPx.out _).mono ?_
  rintro e w8 ⟨rfl, rfl⟩
  go_wp2_with fail
  with_reducible refine (kal.out _).mono ?_
  rintro e w9 ⟨rfl, hb⟩
  have HC9 := Lib.hid (HC7.out.gr' hb)
  have K9 := Lib.hid (K7.out.gr hb)
  clear hb HC7 K7
  have f0 := (HC9.out.b0.at_ (k := 0) rfl).1
  have f1 := (HC9.out.b0.at_ (k := 1) rfl).1
  have kKs := Lib.hid (rKeys_is (c := c) HC9.out.mem HG.out)
  go_wp2_with fail
  with_reducible refine kKs.out.mono ?_
  rintro e w10 ⟨C, k10, rfl, own, hb⟩
  have G10 := Lib.hid (HC9.out.gr.trans hb)
  have k10a := own.le
  have k10b : k10 ≤ 9223372036854775807 := by have := own.max; unfold maxLen at this; omega
  have kS := Lib.hid (rSame_is (c := k4) (d := k10) (K9.out.gr hb) own.mem (by omega) (by omega) (v := true) ⟨fun _ => rfl, fun _ => rfl⟩)
  have K10 := Lib.hid own.mem
  clear hb own kKs f0 f1 HC9 K9
  go_wp2_with fail
  with_reducible refine kS.out.mono ?_
  rintro e w11 ⟨rfl, hb⟩
  have G11 := Lib.hid (G10.out.trans hb)
  have K11 := Lib.hid (K10.out.gr hb)
  clear hb kS K10 G10
  go_wp2_with fail
  with_reducible refine (kKy.out _).mono ?_
  rintro e w12 ⟨rfl, rfl⟩
  have kNx := Lib.hid (rNext_at (c := k10) K11.out (by omega) HPP.out HPZ.out HPF.out)
  have hpm : p < m := by have := (List.getElem?_eq_some_iff.1 HPP.out).1; rw [K11.out.1] at this; exact this
  obtain ⟨b9, o9, z9, hC9, hbl9, hz9, hi9, cz9⟩ := K11.out.at_ hpm
  rw [HPP.out] at hz9
  cases hz9
  subst hC9
  have e1 : (0 : Int) ≤ (p : Int) := by omega
  have e2 : (p : Int) < (m : Int) := by omega
  have e3 : ¬ (p : Int) < 0 := by omega
  go_wp2_with fail
  with_reducible refine kNx.out.mono ?_
  rintro e w13 ⟨rfl, rfl⟩
  obtain ⟨pp, hpp, hpl⟩ := rPlace_any (c := k10) K11.out (by omega) x
  have kPl := Lib.hid hpl
  have hpp0 : pp < 0 := hpp.2 HI.out
  clear hpp hpl
  go_wp2_with fail
  with_reducible refine kPl.out.mono ?_
  rintro e w14 ⟨rfl, rfl⟩
  go_wp2_with fail
  go_ret
  exact ⟨rfl, G11.out⟩

end
theorem TreapTells_walk (w : World) (r : Int) (A : Option Addr) (n c : Nat) (l : List Nd) (hr : B64 r) (hc : n ≤ c) (hn : c ≤ 9223372036854775807) (hm : NMem w A n l) (x : Int) (hx : B64 x) :
    Calls Try.prog 3 #[.agg #[.int .i64 r, .slice A n c], .int .i64 x] w fun e w' => e = .returned (.bool true) ∧ Gr w w' := by
  obtain ⟨m, hmn, hmle⟩ := few_at n
  have h70 : m ≤ 70 := by omega
  by_cases hg : ∃ t, Good (l.take m) r t
  · obtain ⟨t, hg⟩ := hg
    by_cases hk : IsKey x
    · cases hf : t.inord.find? (fun k => decide (x ≤ k)) with
      | none =>
        have hnx : ∀ y ∈ t.inord, y < x := fun y hy => by
          have := List.find?_eq_none.1 hf y hy
          simp at this
          omega
        by_cases hin : x ∈ t.inord
        · exact tells_key_none_in hc hn hm hmn hmle h70 hg hk hnx hin
        · exact tells_key_none_out hc hn hm hmn hmle h70 hg hk hnx hin
      | some z =>
        obtain ⟨h1, p, h2, h3, h4⟩ := List.find?_eq_some_iff_getElem.1 hf
        have hp : t.inord[p]? = some z := by rw [List.getElem?_eq_getElem h2, h3]
        have hz : x ≤ z := of_decide_eq_true h1
        have hff : ∀ j y, j < p → t.inord[j]? = some y → y < x := fun j y hj hy => by
          have h5 := h4 j hj
          have h6 := (List.getElem?_eq_some_iff.1 hy).2
          rw [h6] at h5
          simp at h5
          omega
        by_cases hin : x ∈ t.inord
        · exact tells_key_some_in hc hn hm hmn hmle h70 hg hk hp hz hff hin
        · exact tells_key_some_out hc hn hm hmn hmle h70 hg hk hp hz hff hin
    · exact tells_nokey hc hn hm hmn hmle h70 hg hk
  · by_cases hk : IsKey x
    · exact tells_bad2 hc hn hm hmn hmle h70 hg hk
    · exact tells_bad1 hc hn hm hmn hmle h70 hg hk
set_option maxRecDepth 100000 in
theorem TreapTells_lifted (os : Os) (started : os.Started) (H : Type) (enc : TypeId × Value → H) :
    ReturnsInHanded {} Try.checked os 3 .any (Rows.treapTellsSpec.pre6 enc Try.prog Try.f3 Rows.treapTellsRow.domain false) (Rows.treapTellsSpec.post enc Try.prog Try.f3 false true false false) := by
  refine returnsInHanded_of_change (C := Try.checked) own started (by kernel_rfl) Try.func3
    (ChangeSpec.witness6 (enc := enc) (C := Try.checked) false ⟨#[], #[.agg #[.int .i64 0, .slice none 0 0], .int .i64 0], []⟩ 8 (by kernel_rfl) (by kernel_rfl) (by kernel_rfl) (by kernel_rfl)) ?_
  intro W base args ds gs before hval0 hW hcnd _
  have hval : ∀ (j : Nat) t v, Try.f3.params[j]? = some t → args[j]? = some v → Value.okWide Try.prog W .any base t v := hval0
  have hW' := hW
  obtain ⟨p, q, hA0, hV, rfl, hfz, hnd⟩ := hW
  have hA : DataW.TrodAll enc Try.prog W 0 (fun _ => true) true Try.f3.params.toList args.toList ds p := hA0
  rw [Try.params3] at hA hval
  have hK := hA
  obtain ⟨v0, vs0, d0, ds0, p0, q0, hargs, rfl, hp, h0, r0⟩ := trodAll_cons hA
  obtain ⟨v1, vs1, d1, ds1, p1, q1, rfl, rfl, rfl, h1, r1⟩ := trodAll_cons r0
  obtain ⟨rfl, rfl, rfl⟩ := trodAll_nil r1
  obtain rfl : args = #[v0, v1] := by cases args; simp_all
  obtain ⟨rfl, rfl⟩ := trodVars_none hV
  obtain ⟨x0, A0, n0, c0, l0, rfl, hr0, hc0, hn0, hm0⟩ := open_tree (hval 0 24 v0 rfl rfl) h0
  obtain ⟨a1, rfl, rfl, rfl, w1⟩ := open_int Try.underlying3 (hval 1 3 v1 rfl rfl) h1
  clear hA0 hval0
  refine (TreapTells_walk W x0 A0 n0 c0 l0 hr0 hc0 hn0 hm0 a1 (wfb w1)).mono fun e W' ⟨he, hg⟩ => ?_
  subst he
  exact ⟨_, rfl, post_below (pa := p) (pv := []) hW' (fun _ _ _ => (trodAll_cons_mk (shut_bool Try.underlying4 _) trodAll_mk0))
    (fun sp hs => trodAll_stays laidOut hg sp (by kernel_rfl) hK (fun x hx => hW'.lt x (List.mem_append_left _ hx)) (fun x hx => hs x (List.mem_append_left _ hx))) (fun _ _ => rfl) rfl
    hg (ok_one (by kernel_rfl) rfl (okWide_bool_mk Try.underlying4 _))⟩

theorem TreapTells_over : Rows.treapTellsRow.holds Try.pinned (OpenSpec.ofChange Rows.treapTellsSpec) :=
  OpenClaim.holds_of_wide 3 Try.f3 rfl rfl rfl rfl rfl rfl rfl ⟨rfl, rfl, rfl, rfl, rfl⟩ rfl rfl rfl rfl rfl (by kernel_rfl) Try.func3 (by kernel_rfl)
    (of_decide_eq_true (by kernel_rfl)) (by unfold Func.isWrapper; first | (rw [if_pos (by decide +kernel)]; kernel_rfl) | (rw [if_neg (by decide +kernel)]; exact ⟨rfl, rfl⟩))
    (fun os started H enc _ => TreapTells_lifted os started H enc)

/-- The statement. -/
theorem TreapTells_holds : Rows.TreapTellsSaid :=
  TreapTells_over
#print axioms TreapTells_holds
end Go.Proofs.Ytpblonfcdnephaa

