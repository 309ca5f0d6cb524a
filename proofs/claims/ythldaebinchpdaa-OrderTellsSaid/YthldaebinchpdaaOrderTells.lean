/-
  Proved: deadboltlaw05.OrderTells returns true at every input (the class of any float, which of any two comes ahead, any in order, their sums, and any share, are as the document says). No condition.
-/
import Derived.Test.YthldaebinchpdaaOrderRAll
import Derived.Test.YthldaebinchpdaaEnds
namespace Go.Proofs.Ythldaebinchpdaa
open Go.ChangeShapes Go.WideShapes Go.ChangeAt Go.RowKit
set_option linter.unusedVariables false

/-- A float of that place. -/
def GotF (k : Int) (w : World) (e : Ending) (w' : World) : Prop := ∃ r, e = .returned (.float .f64 r) ∧ F64 r ∧ key r = k ∧ Gr w w'
set_option maxHeartbeats 1000000 in
theorem share_any (a b : Int) : ∃ k, (∀ w, Calls Try.prog 18 #[.int .i64 a, .int .i64 b] w (GotF k w)) ∧ ∀ w, Calls Try.prog 19 #[.int .i64 a, .int .i64 b] w (GotF k w) := by
  cases h : floatBits .quo .f64 (floatOfInt .f64 a) (floatOfInt .f64 b) with
  | some r =>
    have hr : F64 r := by have := floatBits_wf h; simpa [Lit.wf, F64] using this
    have q := fun w => run_float_arith (P := Try.prog) w .quo 22 .f64 _ _ _ h
    clear h
    refine ⟨key r, fun w => ?_, fun w => ?_⟩
    · go_enter Try.func18, Try.ntmps18
      go_wp2_with fail
      go_ret
      exact ⟨r, rfl, hr, rfl, Gr.refl _⟩
    · go_enter Try.func19, Try.ntmps19
      go_wp2_with fail
      go_ret
      exact ⟨r, rfl, hr, rfl, Gr.refl _⟩
  | none =>
    have q := fun w => run_float_none w .quo (.inr rfl) 22 _ _ h
    have hn := fun w => nanr_is w (floatOfInt .f64 a) (floatOfInt .f64 b)
    have HN := Lib.hid hn
    clear h hn
    refine ⟨9218868437227405313, fun w => ?_, fun w => ?_⟩
    · go_enter Try.func18, Try.ntmps18
      go_wp2_with fail
      go_ret
      exact ⟨_, rfl, (HN.out _).1, (HN.out _).2, (Gr.refl _).dr⟩
    · go_enter Try.func19, Try.ntmps19
      go_wp2_with fail
      go_ret
      exact ⟨_, rfl, (HN.out _).1, (HN.out _).2, (Gr.refl _).dr⟩

theorem three_mem {w : World} {a b c : Nat} (ha : F64 a) (hb : F64 b) (hc : F64 c) : FMem (w.alloc (.cells #[.float .f64 a, .float .f64 b, .float .f64 c] 22)) (some ⟨w.heap.size, 0, none⟩) 3 [a, b, c] :=
  ⟨rfl, fun x hx => by
    simp at hx
    rcases hx with rfl | rfl | rfl
    · exact ha
    · exact hb
    · exact hc, fun _ => ⟨w.heap.size, 0, rfl, by simp, fun j x hx => by
    match j, hx with
    | 0, hx => simp at hx; subst hx; simp
    | 1, hx => simp at hx; subst hx; simp
    | 2, hx => simp at hx; subst hx; simp⟩⟩
theorem three_eq {a b c a' b' c' : Nat} (h1 : key a = key a') (h2 : key b = key b') (h3 : key c = key c') : ∀ i, i < 3 → K [a, b, c] i = K [a', b', c'] i := fun i hi => by
  match i, hi with
  | 0, _ => exact h1
  | 1, _ => exact h2
  | 2, _ => exact h3

section
variable {w : World} {A : Option Addr} {n c m : Nat} {l : List Nat} {f g : Nat} {a b : Int}
set_option maxHeartbeats 2000000 in
set_option maxRecDepth 100000 in
theorem tells_none (hf : F64 f) (hg : F64 g) (hc : n ≤ c) (hn : n ≤ 9223372036854775807) (hmn : (60 < n ∧ m = 60) ∨ (n ≤ 60 ∧ m = n)) (hm : FMem w A m l) (h0 : m ≤ 0) :
    Calls Try.prog 3 #[.float .f64 f, .float .f64 g, .slice A n c, .int .i64 a, .int .i64 b] w fun e w' => e = .returned (.bool true) ∧ Gr w w' := by
  obtain rfl : m = 0 := by omega
  have k1 := fun w => Lib.hid (few_ok A n c 0 hc hn hmn w)
  have k2 := fun w => Lib.hid (All_none A c w)
  have k3 := fun w => Lib.hid (Class_ok f hf w)
  have k4 := fun w => Lib.hid (rClass_ok f hf w)
  have k5 := fun w => Lib.hid (Ahead_ok f g hf hg w)
  have k6 := fun w => Lib.hid (rAhead_ok f g hf hg w)
  have k7 := fun w1 (G : Gr w w1) => Lib.hid (Sort_ok (c := c) (hm.gr G) (by omega) (by omega))
  have k8 := fun w1 (G : Gr w w1) => Lib.hid (rSort_ok (c := c) (hm.gr G) (by omega) (by omega))
  obtain ⟨ks, k9, k10⟩ := share_any a b
  have k9' := fun w => Lib.hid (k9 w)
  have k10' := fun w => Lib.hid (k10 w)
  have stf := run_store_float
  clear k9 k10 hm hmn h0
  generalize clk (key f) = x at *
  generalize ahd f g = B at *
  have t1 : (x != x) = false := by simp
  have t2 : (B != B) = false := by simp
  have GG := Gr.refl w
  go_enter Try.func3, Try.ntmps3
  go_wp2_with fail
  refine (k1 _).out.mono ?_
  rintro e w1 ⟨rfl, rfl⟩
  go_wp2_with fail
  refine (k2 _).out.mono ?_
  rintro e w1 ⟨rfl, G1⟩
  go_wp2_with (go_at_call 10; refine Mark.stop ?_)
  refine Mark.go ?_
  generalize hW2 : w1.alloc (.cells #[.float .f64 0, .float .f64 0, .float .f64 0] 26) = W2
  have g2 : Gr w1 W2 := by rw [← hW2]; exact (Gr.refl w1).al _
  have X : Bk W2 w1.heap.size 0 0 0 := by rw [← hW2]; exact Bk.new w1 _ _ _
  replace GG := GG.trans (G1.trans g2)
  clear hW2 G1 g2
  refine (k3 _).out.mono ?_
  rintro e w0 ⟨rfl, hw0⟩
  obtain rfl : W2 = w0 := hw0.symm
  go_wp2_with fail
  refine (k4 _).out.mono ?_
  rintro e w0 ⟨rfl, hw0⟩
  obtain rfl : W2 = w0 := hw0.symm
  go_wp2_with fail
  refine (k5 _).out.mono ?_
  rintro e w0 ⟨rfl, hw0⟩
  obtain rfl : W2 = w0 := hw0.symm
  go_wp2_with fail
  refine (k6 _).out.mono ?_
  rintro e w0 ⟨rfl, hw0⟩
  obtain rfl : W2 = w0 := hw0.symm
  clear k3 k4 k5 k6
  go_wp2_with fail
  refine (k7 _ GG).out.mono ?_
  rintro e w3 ⟨B1, q1, s1, rfl, ms1, ps1, ss1, _, _, G3⟩
  go_wp2_with fail
  refine (k8 _ (GG.trans G3)).out.mono ?_
  rintro e w4 ⟨B2, q2, s2, rfl, ms2, ps2, ss2, _, _, G4⟩
  have kr := Lib.hid (rRows_ok (c := q1) (d := q2) (ms1.gr G4) ms2 (by omega) (alike_rows ps1 ps2 ss1 ss2 ms1.len ms2.len))
  replace GG := GG.trans (G3.trans G4)
  replace X := X.gr (G3.trans G4)
  clear k7 ms1 ms2 ps1 ps2 ss1 ss2 G3 G4
  go_wp2_with fail
  refine kr.out.mono ?_
  rintro e w5 ⟨rfl, hq⟩
  have G5 : Gr w4 w5 := by obtain ⟨q, rfl⟩ := hq; exact (Gr.refl w4).drN q
  replace GG := GG.trans G5
  replace X := X.gr G5
  clear hq G5 kr
  go_wp2_with fail
  refine (k9' _).out.mono ?_
  rintro e w6 ⟨r1, rfl, fr1, kr1, G6⟩
  go_wp2_with fail
  refine (k10' _).out.mono ?_
  rintro e w7 ⟨r2, rfl, fr2, kr2, G7⟩
  have ka := fun w => Lib.hid (rAlike_t fr1 fr2 (kr1.trans kr2.symm) w)
  replace GG := GG.trans (G6.trans G7)
  replace X := X.gr (G6.trans G7)
  clear kr1 kr2 G6 G7 k9' k10'
  go_wp2_with fail
  refine (ka _).out.mono ?_
  rintro e w0 ⟨rfl, hw0⟩
  obtain rfl : w7 = w0 := hw0.symm
  go_wp2_with fail
  refine (alive_ok _).mono ?_
  rintro e w0 ⟨rfl, hw0⟩
  obtain rfl : w7 = w0 := hw0.symm
  obtain ⟨x0, x1, x2⟩ := X.cells
  have kz := Lib.hid (rRows_ok (c := 3) (d := 3) (((three_mem (w := w7) f_0 f_0 f_0)).gr ((Gr.refl _).al _)) (three_mem (w := w7.alloc (.cells #[.float .f64 0, .float .f64 0, .float .f64 0] 22)) f_0 f_0 f_0) (by omega) (three_eq rfl rfl rfl))
  have hs : (w7.alloc (.cells #[.float .f64 0, .float .f64 0, .float .f64 0] 22)).heap.size = w7.heap.size + 1 := by simp
  rw [hs] at kz
  clear hs ka
  go_wp2_with fail
  refine kz.out.mono ?_
  rintro e w8 ⟨rfl, hq⟩
  have G8 := GG.trans (show Gr w7 w8 by obtain ⟨q, rfl⟩ := hq; exact (((Gr.refl w7).al _).al _).drN q)
  clear hq
  go_wp2_with fail
  go_ret
  exact ⟨rfl, G8⟩

set_option maxHeartbeats 2000000 in
set_option maxRecDepth 100000 in
theorem tells_run (hf : F64 f) (hg : F64 g) (hc : n ≤ c) (hn : n ≤ 9223372036854775807) (hmn : (60 < n ∧ m = 60) ∨ (n ≤ 60 ∧ m = n)) (hm : FMem w A m l) (h0 : 0 < m) :
    Calls Try.prog 3 #[.float .f64 f, .float .f64 g, .slice A n c, .int .i64 a, .int .i64 b] w fun e w' => e = .returned (.bool true) ∧ Gr w w' := by
  have k1 := fun w => Lib.hid (few_ok A n c m hc hn hmn w)
  have k2 := Lib.hid (All_any (c := c) hm (by omega) (by omega))
  have k3 := fun w => Lib.hid (Class_ok f hf w)
  have k4 := fun w => Lib.hid (rClass_ok f hf w)
  have k5 := fun w => Lib.hid (Ahead_ok f g hf hg w)
  have k6 := fun w => Lib.hid (rAhead_ok f g hf hg w)
  have k7 := fun w1 (G : Gr w w1) => Lib.hid (Sort_ok (c := c) (hm.gr G) (by omega) (by omega))
  have k8 := fun w1 (G : Gr w w1) => Lib.hid (rSort_ok (c := c) (hm.gr G) (by omega) (by omega))
  have k11 := fun w1 (G : Gr w w1) => Lib.hid (rAll_ok (c := c) (hm.gr G) h0 (by omega) (by omega))
  obtain ⟨ks, k9, k10⟩ := share_any a b
  have k9' := fun w => Lib.hid (k9 w)
  have k10' := fun w => Lib.hid (k10 w)
  have stf := run_store_float
  obtain ⟨m0, m1⟩ := tst_no h0
  have m60 : m ≤ 60 := by omega
  clear k9 k10 hm hmn
  generalize clk (key f) = x at *
  generalize ahd f g = B at *
  have t1 : (x != x) = false := by simp
  have t2 : (B != B) = false := by simp
  have GG := Gr.refl w
  go_enter Try.func3, Try.ntmps3
  go_wp2_with fail
  refine (k1 _).out.mono ?_
  rintro e w0 ⟨rfl, hw0⟩
  obtain rfl : w = w0 := hw0.symm
  go_wp2_with fail
  refine k2.out.mono ?_
  rintro e w1 ⟨mn, mx, S, er, rfl, F1, G1⟩
  obtain ⟨fmn, fmx, fS, hF1⟩ := F1
  obtain ⟨_, rfl, e1, e2, e3⟩ := hF1.resolve_left (by omega)
  clear hF1 k2
  go_wp2_with (go_at_call 10; refine Mark.stop ?_)
  refine Mark.go ?_
  generalize hW2 : w1.alloc (.cells #[.float .f64 mn, .float .f64 mx, .float .f64 S] 26) = W2
  have g2 : Gr w1 W2 := by rw [← hW2]; exact (Gr.refl w1).al _
  have X : Bk W2 w1.heap.size mn mx S := by rw [← hW2]; exact Bk.new w1 _ _ _
  replace GG := GG.trans (G1.trans g2)
  clear hW2 G1 g2
  refine (k3 _).out.mono ?_
  rintro e w0 ⟨rfl, hw0⟩
  obtain rfl : W2 = w0 := hw0.symm
  go_wp2_with fail
  refine (k4 _).out.mono ?_
  rintro e w0 ⟨rfl, hw0⟩
  obtain rfl : W2 = w0 := hw0.symm
  go_wp2_with fail
  refine (k5 _).out.mono ?_
  rintro e w0 ⟨rfl, hw0⟩
  obtain rfl : W2 = w0 := hw0.symm
  go_wp2_with fail
  refine (k6 _).out.mono ?_
  rintro e w0 ⟨rfl, hw0⟩
  obtain rfl : W2 = w0 := hw0.symm
  clear k3 k4 k5 k6
  go_wp2_with fail
  refine (k7 _ GG).out.mono ?_
  rintro e w3 ⟨B1, q1, s1, rfl, ms1, ps1, ss1, _, _, G3⟩
  go_wp2_with fail
  refine (k8 _ (GG.trans G3)).out.mono ?_
  rintro e w4 ⟨B2, q2, s2, rfl, ms2, ps2, ss2, _, _, G4⟩
  have kr := Lib.hid (rRows_ok (c := q1) (d := q2) (ms1.gr G4) ms2 (by omega) (alike_rows ps1 ps2 ss1 ss2 ms1.len ms2.len))
  replace GG := GG.trans (G3.trans G4)
  replace X := X.gr (G3.trans G4)
  clear k7 ms1 ms2 ps1 ps2 ss1 ss2 G3 G4
  go_wp2_with fail
  refine kr.out.mono ?_
  rintro e w5 ⟨rfl, hq⟩
  have G5 : Gr w4 w5 := by obtain ⟨q, rfl⟩ := hq; exact (Gr.refl w4).drN q
  replace GG := GG.trans G5
  replace X := X.gr G5
  clear hq G5 kr
  go_wp2_with fail
  refine (k9' _).out.mono ?_
  rintro e w6 ⟨r1, rfl, fr1, kr1, G6⟩
  go_wp2_with fail
  refine (k10' _).out.mono ?_
  rintro e w7 ⟨r2, rfl, fr2, kr2, G7⟩
  have ka := fun w => Lib.hid (rAlike_t fr1 fr2 (kr1.trans kr2.symm) w)
  replace GG := GG.trans (G6.trans G7)
  replace X := X.gr (G6.trans G7)
  clear kr1 kr2 G6 G7 k9' k10'
  go_wp2_with fail
  refine (ka _).out.mono ?_
  rintro e w0 ⟨rfl, hw0⟩
  obtain rfl : w7 = w0 := hw0.symm
  go_wp2_with fail
  refine (alive_ok _).mono ?_
  rintro e w0 ⟨rfl, hw0⟩
  obtain rfl : w7 = w0 := hw0.symm
  clear ka
  go_wp2_with fail
  refine (k11 _ GG).out.mono ?_
  rintro e w8 ⟨mn2, mx2, S2, rfl, fmn2, fmx2, fS2, e4, e5, e6, G8⟩
  have h1 : key mn = key mn2 := by rw [e1, e4]
  have h2 : key mx = key mx2 := by rw [e2, e5]
  have h3 : key S = key S2 := (cn_key fS fS2).1 (by rw [e3, e6])
  have HQ := Lib.hid (three_eq h1 h2 h3)
  clear e1 e2 e3 e4 e5 e6 h1 h2 h3
  replace GG := GG.trans G8
  replace X := X.gr G8
  have Xn := Bk.new w8 mn2 mx2 S2
  have X2 := X.gr ((Gr.refl w8).al (.cells #[.float .f64 mn2, .float .f64 mx2, .float .f64 S2] 26))
  obtain ⟨x0, x1, x2⟩ := X2.cells
  obtain ⟨y0, y1, y2⟩ := Xn.cells
  have HX := Lib.hid X
  have hne := HX.out.lt
  clear X X2 Xn G8
  obtain ⟨W9, hW9⟩ : ∃ W, w8.alloc (.cells #[.float .f64 mn2, .float .f64 mx2, .float .f64 S2] 26) = W := ⟨_, rfl⟩
  rw [hW9] at x0 x1 x2 y0 y1 y2
  have hs9 : W9.heap.size = w8.heap.size + 1 := by rw [← hW9]; simp
  have h89 : w1.heap.size < W9.heap.size ∧ w8.heap.size < W9.heap.size := by omega
  have G9 : Gr w8 W9 := by rw [← hW9]; exact (Gr.refl w8).al _
  have kz := Lib.hid (rRows_ok (c := 3) (d := 3) (((three_mem (w := W9) fmn fmx fS)).gr ((Gr.refl _).al _)) (three_mem (w := W9.alloc (.cells #[.float .f64 mn, .float .f64 mx, .float .f64 S] 22)) fmn2 fmx2 fS2) (by omega) HQ.out)
  have hs : (W9.alloc (.cells #[.float .f64 mn, .float .f64 mx, .float .f64 S] 22)).heap.size = W9.heap.size + 1 := by simp
  rw [hs] at kz
  obtain ⟨h9a, h9b⟩ := h89
  clear hs hs9
  go_wp2_with fail
  refine kz.out.mono ?_
  rintro e w10 ⟨rfl, hq⟩
  have G10 := (GG.trans G9).trans (show Gr W9 w10 by obtain ⟨q, rfl⟩ := hq; exact (((Gr.refl W9).al _).al _).drN q)
  clear hq hW9
  go_wp2_with fail
  go_ret
  exact ⟨rfl, G10⟩
theorem OrderTells_walk (w : World) (f : Nat) (hf : F64 f) (g : Nat) (hg : F64 g) (A : Option Addr) (n c : Nat) (l : List Nat) (hc : n ≤ c) (hn : n ≤ 9223372036854775807) (hm : FMem w A n l) (a : Int) (ha : -9223372036854775808 ≤ a ∧ a ≤ 9223372036854775807) (b : Int) (hb : -9223372036854775808 ≤ b ∧ b ≤ 9223372036854775807) :
    Calls Try.prog 3 #[.float .f64 f, .float .f64 g, .slice A n c, .int .i64 a, .int .i64 b] w fun e w' => e = .returned (.bool true) ∧ Gr w w' := by
  obtain ⟨m, hmn⟩ : ∃ m, (60 < n ∧ m = 60) ∨ (n ≤ 60 ∧ m = n) := by
    by_cases h : 60 < n
    · exact ⟨60, .inl ⟨h, rfl⟩⟩
    · exact ⟨n, .inr ⟨by omega, rfl⟩⟩
  by_cases h : 0 < m
  · exact tells_run hf hg hc hn hmn (hm.take_ m (by omega)) h
  · exact tells_none hf hg hc hn hmn (hm.take_ m (by omega)) (by omega)
end

set_option maxRecDepth 100000 in
theorem OrderTells_lifted (os : Os) (started : os.Started) (H : Type) (enc : TypeId × Value → H) :
    ReturnsInHanded {} Try.checked os 3 .any (Rows.orderTellsSpec.pre6 enc Try.prog Try.f3 Rows.orderTellsRow.domain false) (Rows.orderTellsSpec.post enc Try.prog Try.f3 false true false false) := by
  refine returnsInHanded_of_change (C := Try.checked) own started (by kernel_rfl) Try.func3
    (ChangeSpec.witness6 (enc := enc) (C := Try.checked) false ⟨#[], #[.float .f64 0, .float .f64 0, .slice none 0 0, .int .i64 0, .int .i64 0], []⟩ 8 (by kernel_rfl) (by kernel_rfl) (by kernel_rfl) (by kernel_rfl)) ?_
  intro W base args ds gs before hval0 hW hcnd _
  have hval : ∀ (j : Nat) t v, Try.f3.params[j]? = some t → args[j]? = some v → Value.okWide Try.prog W .any base t v := hval0
  have hW' := hW
  obtain ⟨p, q, hA0, hV, rfl, hfz, hnd⟩ := hW
  have hA : DataW.TrodAll enc Try.prog W 0 (fun _ => true) true Try.f3.params.toList args.toList ds p := hA0
  rw [Try.params3] at hA hval
  have hK := hA
  obtain ⟨v0, vs0, d0, ds0, p0, q0, hargs, rfl, hp, h0, r0⟩ := trodAll_cons hA
  obtain ⟨v1, vs1, d1, ds1, p1, q1, rfl, rfl, rfl, h1, r1⟩ := trodAll_cons r0
  obtain ⟨v2, vs2, d2, ds2, p2, q2, rfl, rfl, rfl, h2, r2⟩ := trodAll_cons r1
  obtain ⟨v3, vs3, d3, ds3, p3, q3, rfl, rfl, rfl, h3, r3⟩ := trodAll_cons r2
  obtain ⟨v4, vs4, d4, ds4, p4, q4, rfl, rfl, rfl, h4, r4⟩ := trodAll_cons r3
  obtain ⟨rfl, rfl, rfl⟩ := trodAll_nil r4
  obtain rfl : args = #[v0, v1, v2, v3, v4] := by cases args; simp_all
  obtain ⟨rfl, rfl⟩ := trodVars_none hV
  obtain ⟨a0, rfl, rfl, rfl, w0⟩ := open_float Try.underlying22 (hval 0 22 v0 rfl rfl) h0
  obtain ⟨a1, rfl, rfl, rfl, w1⟩ := open_float Try.underlying22 (hval 1 22 v1 rfl rfl) h1
  obtain ⟨A2, n2, c2, l2, rfl, hc2, hn2, hm2⟩ := open_floatrow (hval 2 23 v2 rfl rfl) h2
  obtain ⟨a3, rfl, rfl, rfl, w3⟩ := open_int Try.underlying3 (hval 3 3 v3 rfl rfl) h3
  obtain ⟨a4, rfl, rfl, rfl, w4⟩ := open_int Try.underlying3 (hval 4 3 v4 rfl rfl) h4
  clear hA0 hval0
  refine (OrderTells_walk W a0 (f64wf w0) a1 (f64wf w1) A2 n2 c2 l2 hc2 hn2 hm2 a3 (wfb w3) a4 (wfb w4)).mono fun e W' ⟨he, hg⟩ => ?_
  subst he
  exact ⟨_, rfl, post_below (pa := p) (pv := []) hW' (fun _ _ _ => (trodAll_cons_mk (shut_bool Try.underlying4 _) trodAll_mk0))
    (fun sp hs => trodAll_stays laidOut hg sp (by kernel_rfl) hK (fun x hx => hW'.lt x (List.mem_append_left _ hx)) (fun x hx => hs x (List.mem_append_left _ hx))) (fun _ _ => rfl) rfl
    hg (ok_one (by kernel_rfl) rfl (okWide_bool_mk Try.underlying4 _))⟩

theorem OrderTells_over : Rows.orderTellsRow.holds Try.pinned (OpenSpec.ofChange Rows.orderTellsSpec) :=
  OpenClaim.holds_of_wide 3 Try.f3 rfl rfl rfl rfl rfl rfl rfl ⟨rfl, rfl, rfl, rfl, rfl⟩ rfl rfl rfl rfl rfl (by kernel_rfl) Try.func3 (by kernel_rfl)
    (of_decide_eq_true (by kernel_rfl)) (by unfold Func.isWrapper; first | (rw [if_pos (by decide +kernel)]; kernel_rfl) | (rw [if_neg (by decide +kernel)]; exact ⟨rfl, rfl⟩))
    (fun os started H enc _ => OrderTells_lifted os started H enc)

/-- The statement. -/
theorem OrderTells_holds : Rows.OrderTellsSaid :=
  OrderTells_over
#print axioms OrderTells_holds
end Go.Proofs.Ythldaebinchpdaa
