/-
  Proved: deadboltlaw05.OrderJoins returns true at every input (the least of two rows together is the first of both leasts, the greatest the last of both greatest; and a row with one more at its end has that much more in all). No condition.
-/
import Derived.Test.YthldaebinchpdaaOrderKeys
import Derived.Test.YthldaebinchpdaaEnds
namespace Go.Proofs.Ythldaebinchpdaa
open Go.ChangeShapes Go.WideShapes Go.ChangeAt Go.RowKit
set_option linter.unusedVariables false

/-- Block h holds what a row comes to. -/
def Sm (w : World) (h mn mx S : Nat) : Prop :=
  h < w.heap.size ∧ w.cell? ⟨h, 0, none⟩ = some (.float .f64 mn) ∧ w.cell? ⟨h, 1, none⟩ = some (.float .f64 mx) ∧ w.cell? ⟨h, 2, none⟩ = some (.float .f64 S)
theorem Sm.gr {w w' : World} {h mn mx S : Nat} (a : Sm w h mn mx S) (g : Gr w w') : Sm w' h mn mx S :=
  ⟨Nat.lt_of_lt_of_le a.1 g.size, (g.cell (p := ⟨h, 0, none⟩) a.1).trans a.2.1, (g.cell (p := ⟨h, 1, none⟩) a.1).trans a.2.2.1, (g.cell (p := ⟨h, 2, none⟩) a.1).trans a.2.2.2⟩
theorem Sm.new (w : World) (mn mx S : Nat) : Sm (w.alloc (.cells #[.float .f64 mn, .float .f64 mx, .float .f64 S] 26)) w.heap.size mn mx S := by
  refine ⟨by simp, ?_, ?_, ?_⟩ <;> simp
theorem own0 (w : World) (h : Nat) (hs : w.heap.size = h) : (w.alloc (.cells #[] 22)).ownsRow h 22 1 (.slice (some ⟨h, 0, none⟩) 0 0) 0 (([] : List Nat).map (Value.float .f64)) := by
  subst hs
  exact World.ownsRow_made w #[] 0 (Nat.le_refl _) (by unfold maxLen; omega) rfl
theorem AllF_er4 {n : Nat} {l : List Nat} {mn mx S : Nat} {er : Int} (h : n ≤ 0) (F : AllF n l mn mx S er) : 4 = er := by
  rcases F.2.2.2 with ⟨_, h⟩ | ⟨h0, _⟩ <;> omega
theorem AllF_er0 {n : Nat} {l : List Nat} {mn mx S : Nat} {er : Int} (h : 0 < n) (F : AllF n l mn mx S er) : 0 = er := by
  rcases F.2.2.2 with ⟨_, _⟩ | ⟨h0, h, _⟩ <;> omega
theorem tst_no {m : Nat} (h : 0 < m) : ((m : Int) == 0) = false ∧ decide (0 < m) = true := ⟨beq_eq_false_iff_ne.2 (by omega), decide_eq_true h⟩
theorem tst_yes {m : Nat} (h : m ≤ 0) : ((m : Int) == 0) = true ∧ decide (0 < m) = false := ⟨beq_iff_eq.2 (by omega), decide_eq_false (by omega)⟩
theorem one_mem {w : World} {f : Nat} (hf : F64 f) : FMem (w.alloc (.cells #[.float .f64 f] 22)) (some ⟨w.heap.size, 0, none⟩) 1 [f] :=
  ⟨rfl, fun x hx => by simp at hx; exact hx ▸ hf, fun _ => ⟨w.heap.size, 0, rfl, by simp, fun j x hx => by
    cases j with
    | zero => simp at hx; subst hx; simp
    | succ j => simp at hx⟩⟩
theorem rAlike_t {a b : Nat} (ha : F64 a) (hb : F64 b) (h : key a = key b) (w : World) : Calls Try.prog 17 #[.float .f64 a, .float .f64 b] w fun e w' => e = .returned (.bool true) ∧ w' = w := by
  have := rAlike_ok a b ha hb w
  rwa [alk_iff.2 h] at this
section
variable {w : World} {A B : Option Addr} {n c m p d q : Nat} {l r : List Nat} {f : Nat}
set_option maxHeartbeats 4000000 in
set_option maxRecDepth 100000 in
theorem joins_run (hc : n ≤ c) (hn : n ≤ 9223372036854775807) (hmn : (60 < n ∧ m = 60) ∨ (n ≤ 60 ∧ m = n)) (hm : FMem w A m l)
    (hd : p ≤ d) (hp : p ≤ 9223372036854775807) (hpq : (60 < p ∧ q = 60) ∨ (p ≤ 60 ∧ q = p)) (hr : FMem w B q r) (hf : F64 f) (h0 : 0 < m ∧ 0 < q) :
    Calls Try.prog 7 #[.slice A n c, .slice B p d, .float .f64 f] w fun e w' => e = .returned (.bool true) ∧ Gr w w' := by
  obtain ⟨i0, hi0, hz0, hz1, hz2⟩ := info_parts infoFloat
  have k1 := fun w => Lib.hid (few_ok A n c m hc hn hmn w)
  have k2 := fun w => Lib.hid (few_ok B p d q hd hp hpq w)
  have kA := fun (w1 : World) (g : Gr w w1) => Lib.hid (All_any (c := c) (hm.gr g) (by omega) (by omega))
  have kB := fun (w1 : World) (g : Gr w w1) => Lib.hid (All_any (c := d) (hr.gr g) (by omega) (by omega))
  have HM := Lib.hid hm
  have HR := Lib.hid hr
  have m60 : m ≤ 60 := by omega
  have q60 : q ≤ 60 := by omega
  have HZ := Lib.hid hz0
  have HZ1 := Lib.hid hz1
  have HZ2 := Lib.hid hz2
  have HI0 := Lib.hid hi0
  have stf := run_store_float
  clear hz0 hz1 hz2 hi0 hm hr hmn hpq
  have G := Gr.refl w
  go_enter Try.func7, Try.ntmps7
  go_wp2_with fail
  refine (k1 _).out.mono ?_
  rintro e w1 ⟨rfl, rfl⟩
  go_wp2_with fail
  refine (k2 _).out.mono ?_
  rintro e w1 ⟨rfl, rfl⟩
  clear k1 k2
  go_wp2_with fail
  refine (kA _ G).out.mono ?_
  rintro e w1 ⟨mn, mx, S, er, rfl, F1, g1⟩
  replace G := G.trans g1
  go_wp2_with fail
  refine (kB _ (G.al _)).out.mono ?_
  rintro e w2 ⟨mn2, mx2, S2, er2, rfl, F2, g2⟩
  have X := (Sm.new w1 mn mx S).gr g2
  replace G := (G.al _).trans g2
  clear g1 g2
  go_wp2_with (at_builtin; refine Mark.stop ?_)
  refine Mark.go ?_
  generalize hW2 : w2.alloc (.cells #[.float .f64 mn2, .float .f64 mx2, .float .f64 S2] 26) = W2
  have HS2 := Lib.hid (show W2.heap.size = w2.heap.size + 1 by rw [← hW2]; simp)
  have g3 : Gr w2 W2 := by rw [← hW2]; exact (Gr.refl w2).al _
  have Y : Sm W2 w2.heap.size mn2 mx2 S2 := by rw [← hW2]; exact Sm.new _ _ _ _
  replace X := X.gr g3
  replace G := G.trans g3
  clear hW2 g3
  have o0 := own0 W2 _ HS2.out
  refine wpList_append_emem _ (Value.float .f64) F64 rfl (.tmp 32) (.tmp 33) 23 rfl (fun _ => rfl) (w2.heap.size + 1) 22 i0 (.float .f64 0) 8 Try.underlying23 HI0.out HZ.out HZ1.out HZ2.out rfl _ 0 [] rfl o0 A m c l rfl (HM.out.gr (G.al _)) (by unfold maxLen; omega) (by omega) (by have := HS2.out; simp; omega) ?_
  intro v1 w3 own1 gb1
  simp only [Nat.zero_add, List.nil_append] at own1
  have G3 : Gr W2 w3 := ((Gr.refl W2).al _).gb gb1 (fun k hk => by rw [HS2.out]; exact (o0.lt k hk).1)
  clear o0 gb1
  go_wp2_with (at_builtin; refine Mark.stop ?_)
  refine Mark.go ?_
  refine wpList_append_emem _ (Value.float .f64) F64 rfl (.tmp 34) (.tmp 35) 23 rfl (fun _ => rfl) (w2.heap.size + 1) 22 i0 (.float .f64 0) 8 Try.underlying23 HI0.out HZ.out HZ1.out HZ2.out rfl v1 m l rfl own1 B q d r rfl (HR.out.gr (G.trans G3)) (by unfold maxLen; omega) (by omega) (by have := G3.size; have := HS2.out; omega) ?_
  intro v2 w4 own2 gb2
  replace G3 := G3.gb gb2 (fun k hk => by rw [HS2.out]; exact (own1.lt k hk).1)
  obtain ⟨Bz, mz, rfl, hmz, hz1, hz2⟩ := own_emem (ok := F64) (by rw [List.length_append, HM.out.len, HR.out.len]) (fun x hx => by
    rcases List.mem_append.1 hx with h | h
    · exact HM.out.all x h
    · exact HR.out.all x h) own2
  replace G := G.trans G3
  replace X := X.gr G3
  replace Y := Y.gr G3
  clear own1 own2 gb2 G3
  go_wp2_with fail
  unfold maxLen at hz2
  have kz := Lib.hid (All_any (c := mz) hmz hz1 (by omega))
  clear hmz
  refine kz.out.mono ?_
  rintro e w5 ⟨mn3, mx3, S3, er3, rfl, F3, g3⟩
  replace G := G.trans g3
  replace X := X.gr g3
  replace Y := Y.gr g3
  clear g3 kz
  obtain ⟨fmn, fmx, fS, hF1⟩ := F1
  obtain ⟨fmn2, fmx2, fS2, hF2⟩ := F2
  obtain ⟨fmn3, fmx3, fS3, hF3⟩ := F3
  obtain ⟨_, rfl, e1, e2, e3⟩ := hF1.resolve_left (by omega)
  obtain ⟨_, rfl, e4, e5, e6⟩ := hF2.resolve_left (by omega)
  obtain ⟨_, rfl, e7, e8, e9⟩ := hF3.resolve_left (by omega)
  clear hF1 hF2 hF3
  obtain ⟨kk1, kk2⟩ := mink_app l r (by have := HM.out.len; omega) (q - 1)
  rw [HM.out.len] at kk1 kk2
  rw [show m + q - 1 = m + (q - 1) by omega, kk1, ← e1, ← e4] at e7
  rw [show m + q - 1 = m + (q - 1) by omega, kk2, ← e2, ← e5] at e8
  have j1 := fun w => Lib.hid (Ahead_ok mn2 mn fmn2 fmn w)
  have j2 := fun w => Lib.hid (Ahead_ok mx mx2 fmx fmx2 w)
  obtain ⟨B1, hB1⟩ : ∃ B, ahd mn2 mn = B := ⟨_, rfl⟩
  obtain ⟨B2, hB2⟩ : ∃ B, ahd mx mx2 = B := ⟨_, rfl⟩
  rw [hB1] at j1
  rw [hB2] at j2
  have L1 : Hid (key mn3 = key (if B1 then mn2 else mn)) := Lib.hid (by
    cases B1
    · have := ahd_not.1 hB1; rw [if_neg (by decide)]; omega
    · have := ahd_iff.1 hB1; rw [if_pos rfl]; omega)
  have L2 : Hid (key mx3 = key (if B2 then mx2 else mx)) := Lib.hid (by
    cases B2
    · have := ahd_not.1 hB2; rw [if_neg (by decide)]; omega
    · have := ahd_iff.1 hB2; rw [if_pos rfl]; omega)
  have ES := Lib.hid e3
  clear e1 e2 e3 e4 e5 e6 e7 e8 e9 hB1 hB2 kk1 kk2
  have m0 : ((m : Int) == 0) = false := beq_eq_false_iff_ne.2 (by omega)
  have q0 : ((q : Int) == 0) = false := beq_eq_false_iff_ne.2 (by omega)
  go_wp2_with fail
  generalize hW5 : w5.alloc (.cells #[.float .f64 mn3, .float .f64 mx3, .float .f64 S3] 26) = W5
  have g5 : Gr w5 W5 := by rw [← hW5]; exact (Gr.refl w5).al _
  have Z : Sm W5 w5.heap.size mn3 mx3 S3 := by rw [← hW5]; exact Sm.new _ _ _ _
  replace X := X.gr g5
  replace Y := Y.gr g5
  replace G := G.trans g5
  clear hW5 g5
  obtain ⟨hx, x0, x1, x2⟩ := X
  obtain ⟨hy, y0, y1, y2⟩ := Y
  go_quiet (fail)
  go_wp2_with fail
  refine (j1 _).out.mono ?_
  rintro e w7 ⟨rfl, rfl⟩
  cases B1
  all_goals (
    go_wp2_with fail
    refine (j2 _).out.mono ?_
    rintro e w8 ⟨rfl, rfl⟩
    cases B2
    all_goals (
      go_wp2_with (at_builtin; refine Mark.stop ?_)
      refine Mark.go ?_
      generalize hW6 : World.drewN W5 _ = W6
      have HS6 := Lib.hid (show W6.heap.size = W5.heap.size by rw [← hW6]; rfl)
      have g6 : Gr W5 W6 := by rw [← hW6]; exact (Gr.refl W5).drN _
      have X := (show Sm W5 w1.heap.size mn mx S from ⟨hx, x0, x1, x2⟩).gr g6
      replace Z := Z.gr g6
      replace G := G.trans g6
      clear hW6 g6 hx hy x0 x1 x2 y0 y1 y2
      have o0 := own0 W6 _ HS6.out
      refine wpList_append_emem _ (Value.float .f64) F64 rfl (.tmp 84) (.tmp 85) 23 rfl (fun _ => rfl) W5.heap.size 22 i0 (.float .f64 0) 8 Try.underlying23 HI0.out HZ.out HZ1.out HZ2.out rfl _ 0 [] rfl o0 A m c l rfl (HM.out.gr (G.al _)) (by unfold maxLen; omega) (by omega) (by have := HS6.out; simp; omega) ?_
      intro v1 w9 own1 gb1
      simp only [Nat.zero_add, List.nil_append] at own1
      have G3 : Gr W6 w9 := ((Gr.refl W6).al _).gb gb1 (fun k hk => by rw [HS6.out]; exact (o0.lt k hk).1)
      clear o0 gb1
      go_wp2_with (at_builtin; refine Mark.stop ?_)
      refine Mark.go ?_
      refine wpList_append_emem _ (Value.float .f64) F64 rfl (.tmp 86) (.tmp 88) 23 rfl (fun _ => rfl) W5.heap.size 22 i0 (.float .f64 0) 8 Try.underlying23 HI0.out HZ.out HZ1.out HZ2.out rfl v1 m l rfl (own1.alloc _) (some ⟨w9.heap.size, 0, none⟩) 1 1 [f] rfl (one_mem hf) (by unfold maxLen; omega) (by omega) (by have := G3.size; have := HS6.out; simp; omega) ?_
      intro v2 w10 own2 gb2
      replace G3 := (G3.al _).gb gb2 (fun k hk => by rw [HS6.out]; exact (own1.lt k hk).1)
      obtain ⟨Bw, mw, rfl, hmw, hw1, hw2⟩ := own_emem (ok := F64) (by rw [List.length_append, HM.out.len]; rfl) (fun x hx => by
        rcases List.mem_append.1 hx with h | h
        · exact HM.out.all x h
        · simp at h; exact h ▸ hf) own2
      replace G := G.trans G3
      replace X := X.gr G3
      replace Z := Z.gr G3
      clear own1 own2 gb2 G3
      go_wp2_with fail
      unfold maxLen at hw2
      have kw := Lib.hid (All_any (c := mw) hmw hw1 (by omega))
      clear hmw
      refine kw.out.mono ?_
      rintro e w11 ⟨mn4, mx4, S4, er4, rfl, F4, g4⟩
      replace G := G.trans g4
      replace X := X.gr g4
      replace Z := Z.gr g4
      clear g4 kw
      obtain ⟨_, _, fS4, hF4⟩ := F4
      obtain ⟨_, rfl, _, _, e4⟩ := hF4.resolve_left (by omega)
      clear hF4
      have e5 : cn S4 = cadd S f := by
        rw [e4, show m + 1 - 1 = l.length by rw [HM.out.len]; omega, csum_snoc l f (by rw [HM.out.len]; omega), ← cadd_cn S f, ES.out, HM.out.len]
      have E5 := Lib.hid e5
      clear e4 e5
      go_wp2_with (go_at_call 20; refine Mark.stop ?_)
      refine Mark.go ?_
      generalize hW11 : w11.alloc (.cells #[.float .f64 mn4, .float .f64 mx4, .float .f64 S4] 26) = W11
      have g11 : Gr w11 W11 := by rw [← hW11]; exact (Gr.refl w11).al _
      have V : Sm W11 w11.heap.size mn4 mx4 S4 := by rw [← hW11]; exact Sm.new _ _ _ _
      replace X := X.gr g11
      replace Z := Z.gr g11
      replace G := G.trans g11
      clear hW11 g11
      obtain ⟨hx, x0, x1, x2⟩ := X
      obtain ⟨hz, z0, z1, z2⟩ := Z
      obtain ⟨hv, v0, v1, v2⟩ := V
      obtain ⟨rr, kq, hrun, hrr, hcr⟩ := add_ex fS hf 22 W11
      have l1 := L1.out
      have l2 := L2.out
      simp only [if_true, if_false, Bool.false_eq_true] at l1 l2
      have a1 := fun w => Lib.hid (rAlike_t fmn3 (by first | exact fmn2 | exact fmn) l1 w)
      have a2 := fun w => Lib.hid (rAlike_t fmx3 (by first | exact fmx2 | exact fmx) l2 w)
      have a3 := fun w => Lib.hid (rAlike_t fS4 hrr ((cn_key fS4 hrr).1 (by rw [E5.out, hcr])) w)
      clear l1 l2 hcr
      refine (alive_ok _).mono ?_
      rintro e w12 ⟨rfl, rfl⟩
      go_wp2_with fail
      refine (a1 _).out.mono ?_
      rintro e w12 ⟨rfl, rfl⟩
      go_wp2_with fail
      refine (a2 _).out.mono ?_
      rintro e w12 ⟨rfl, rfl⟩
      go_wp2_with fail
      refine (a3 _).out.mono ?_
      rintro e w12 ⟨rfl, rfl⟩
      go_wp2_with fail
      go_ret
      exact ⟨rfl, G.drN _⟩))
set_option maxHeartbeats 4000000 in
set_option maxRecDepth 100000 in
theorem joins_none (hc : n ≤ c) (hn : n ≤ 9223372036854775807) (hmn : (60 < n ∧ m = 60) ∨ (n ≤ 60 ∧ m = n)) (hm : FMem w A m l)
    (hd : p ≤ d) (hp : p ≤ 9223372036854775807) (hpq : (60 < p ∧ q = 60) ∨ (p ≤ 60 ∧ q = p)) (hr : FMem w B q r) (hf : F64 f) (h0 : (m ≤ 0 ∧ q ≤ 0) ∨ (m ≤ 0 ∧ 0 < q) ∨ (0 < m ∧ q ≤ 0)) :
    Calls Try.prog 7 #[.slice A n c, .slice B p d, .float .f64 f] w fun e w' => e = .returned (.bool true) ∧ Gr w w' := by
  obtain ⟨i0, hi0, hz0, hz1, hz2⟩ := info_parts infoFloat
  have k1 := fun w => Lib.hid (few_ok A n c m hc hn hmn w)
  have k2 := fun w => Lib.hid (few_ok B p d q hd hp hpq w)
  have kA := fun (w1 : World) (g : Gr w w1) => Lib.hid (All_any (c := c) (hm.gr g) (by omega) (by omega))
  have kB := fun (w1 : World) (g : Gr w w1) => Lib.hid (All_any (c := d) (hr.gr g) (by omega) (by omega))
  have HM := Lib.hid hm
  have HR := Lib.hid hr
  have m60 : m ≤ 60 := by omega
  have q60 : q ≤ 60 := by omega
  have HZ := Lib.hid hz0
  have HZ1 := Lib.hid hz1
  have HZ2 := Lib.hid hz2
  have HI0 := Lib.hid hi0
  have stf := run_store_float
  clear hz0 hz1 hz2 hi0 hm hr hmn hpq
  have G := Gr.refl w
  rcases h0 with ⟨h1, h2⟩ | ⟨h1, h2⟩ | ⟨h1, h2⟩
  all_goals (
    have H1 := Lib.hid h1
    have H2 := Lib.hid h2
    clear h1 h2
    go_enter Try.func7, Try.ntmps7
    go_wp2_with fail
    refine (k1 _).out.mono ?_
    rintro e w1 ⟨rfl, rfl⟩
    go_wp2_with fail
    refine (k2 _).out.mono ?_
    rintro e w1 ⟨rfl, rfl⟩
    clear k1 k2
    go_wp2_with fail
    refine (kA _ G).out.mono ?_
    rintro e w1 ⟨mn, mx, S, er, rfl, F1, g1⟩
    replace G := G.trans g1
    go_wp2_with fail
    refine (kB _ (G.al _)).out.mono ?_
    rintro e w2 ⟨mn2, mx2, S2, er2, rfl, F2, g2⟩
    first
      | (obtain rfl := AllF_er4 H1.out F1)
      | (obtain rfl := AllF_er0 H1.out F1)
    first
      | (obtain rfl := AllF_er4 H2.out F2)
      | (obtain rfl := AllF_er0 H2.out F2)
    clear F1 F2
    have X := (Sm.new w1 mn mx S).gr g2
    replace G := (G.al _).trans g2
    clear g1 g2
    go_wp2_with (at_builtin; refine Mark.stop ?_)
    refine Mark.go ?_
    generalize hW2 : w2.alloc (.cells #[.float .f64 mn2, .float .f64 mx2, .float .f64 S2] 26) = W2
    have HS2 := Lib.hid (show W2.heap.size = w2.heap.size + 1 by rw [← hW2]; simp)
    have g3 : Gr w2 W2 := by rw [← hW2]; exact (Gr.refl w2).al _
    have Y : Sm W2 w2.heap.size mn2 mx2 S2 := by rw [← hW2]; exact Sm.new _ _ _ _
    replace X := X.gr g3
    replace G := G.trans g3
    clear hW2 g3
    have o0 := own0 W2 _ HS2.out
    refine wpList_append_emem _ (Value.float .f64) F64 rfl (.tmp 32) (.tmp 33) 23 rfl (fun _ => rfl) (w2.heap.size + 1) 22 i0 (.float .f64 0) 8 Try.underlying23 HI0.out HZ.out HZ1.out HZ2.out rfl _ 0 [] rfl o0 A m c l rfl (HM.out.gr (G.al _)) (by unfold maxLen; omega) (by omega) (by have := HS2.out; simp; omega) ?_
    intro v1 w3 own1 gb1
    simp only [Nat.zero_add, List.nil_append] at own1
    have G3 : Gr W2 w3 := ((Gr.refl W2).al _).gb gb1 (fun k hk => by rw [HS2.out]; exact (o0.lt k hk).1)
    clear o0 gb1
    go_wp2_with (at_builtin; refine Mark.stop ?_)
    refine Mark.go ?_
    refine wpList_append_emem _ (Value.float .f64) F64 rfl (.tmp 34) (.tmp 35) 23 rfl (fun _ => rfl) (w2.heap.size + 1) 22 i0 (.float .f64 0) 8 Try.underlying23 HI0.out HZ.out HZ1.out HZ2.out rfl v1 m l rfl own1 B q d r rfl (HR.out.gr (G.trans G3)) (by unfold maxLen; omega) (by omega) (by have := G3.size; have := HS2.out; omega) ?_
    intro v2 w4 own2 gb2
    replace G3 := G3.gb gb2 (fun k hk => by rw [HS2.out]; exact (own1.lt k hk).1)
    obtain ⟨Bz, mz, rfl, hmz, hz1, hz2⟩ := own_emem (ok := F64) (by rw [List.length_append, HM.out.len, HR.out.len]) (fun x hx => by
      rcases List.mem_append.1 hx with h | h
      · exact HM.out.all x h
      · exact HR.out.all x h) own2
    replace G := G.trans G3
    replace X := X.gr G3
    replace Y := Y.gr G3
    clear own1 own2 gb2 G3
    go_wp2_with fail
    unfold maxLen at hz2
    have kz := Lib.hid (All_any (c := mz) hmz hz1 (by omega))
    clear hmz
    refine kz.out.mono ?_
    rintro e w5 ⟨mn3, mx3, S3, er3, rfl, F3, g3⟩
    replace G := G.trans g3
    clear g3 kz F3 X Y HS2
    have h1 := H1.out
    have h2 := H2.out
    first
      | (have m0 := tst_no h1)
      | (have m0 := tst_yes h1)
    first
      | (have q0 := tst_no h2)
      | (have q0 := tst_yes h2)
    clear h1 h2
    obtain ⟨m0, m1⟩ := m0
    obtain ⟨q0, q1⟩ := q0
    go_wp2_with fail
    refine (alive_ok _).mono ?_
    rintro e w12 ⟨rfl, rfl⟩
    go_wp2_with fail
    go_ret
    exact ⟨rfl, G.al _⟩)

theorem OrderJoins_walk (w : World) (A : Option Addr) (n c : Nat) (l : List Nat) (hc : n ≤ c) (hn : n ≤ 9223372036854775807) (hm : FMem w A n l) (B : Option Addr) (p d : Nat) (r : List Nat) (hd : p ≤ d) (hp : p ≤ 9223372036854775807) (hr : FMem w B p r) (f : Nat) (hf : F64 f) :
    Calls Try.prog 7 #[.slice A n c, .slice B p d, .float .f64 f] w fun e w' => e = .returned (.bool true) ∧ Gr w w' := by
  obtain ⟨m, hmn⟩ : ∃ m, (60 < n ∧ m = 60) ∨ (n ≤ 60 ∧ m = n) := by
    by_cases h : 60 < n
    · exact ⟨60, .inl ⟨h, rfl⟩⟩
    · exact ⟨n, .inr ⟨by omega, rfl⟩⟩
  obtain ⟨q, hpq⟩ : ∃ m, (60 < p ∧ m = 60) ∨ (p ≤ 60 ∧ m = p) := by
    by_cases h : 60 < p
    · exact ⟨60, .inl ⟨h, rfl⟩⟩
    · exact ⟨p, .inr ⟨by omega, rfl⟩⟩
  by_cases h : 0 < m ∧ 0 < q
  · exact joins_run hc hn hmn (hm.take_ m (by omega)) hd hp hpq (hr.take_ q (by omega)) hf h
  · exact joins_none hc hn hmn (hm.take_ m (by omega)) hd hp hpq (hr.take_ q (by omega)) hf (by omega)
end

set_option maxRecDepth 100000 in
theorem OrderJoins_lifted (os : Os) (started : os.Started) (H : Type) (enc : TypeId × Value → H) :
    ReturnsInHanded {} Try.checked os 7 .any (Rows.orderJoinsSpec.pre6 enc Try.prog Try.f7 Rows.orderJoinsRow.domain false) (Rows.orderJoinsSpec.post enc Try.prog Try.f7 false true false false) := by
  refine returnsInHanded_of_change (C := Try.checked) own started (by kernel_rfl) Try.func7
    (ChangeSpec.witness6 (enc := enc) (C := Try.checked) false ⟨#[], #[.slice none 0 0, .slice none 0 0, .float .f64 0], []⟩ 8 (by kernel_rfl) (by kernel_rfl) (by kernel_rfl) (by kernel_rfl)) ?_
  intro W base args ds gs before hval0 hW hcnd _
  have hval : ∀ (j : Nat) t v, Try.f7.params[j]? = some t → args[j]? = some v → Value.okWide Try.prog W .any base t v := hval0
  have hW' := hW
  obtain ⟨p, q, hA0, hV, rfl, hfz, hnd⟩ := hW
  have hA : DataW.TrodAll enc Try.prog W 0 (fun _ => true) true Try.f7.params.toList args.toList ds p := hA0
  rw [Try.params7] at hA hval
  have hK := hA
  obtain ⟨v0, vs0, d0, ds0, p0, q0, hargs, rfl, hp, h0, r0⟩ := trodAll_cons hA
  obtain ⟨v1, vs1, d1, ds1, p1, q1, rfl, rfl, rfl, h1, r1⟩ := trodAll_cons r0
  obtain ⟨v2, vs2, d2, ds2, p2, q2, rfl, rfl, rfl, h2, r2⟩ := trodAll_cons r1
  obtain ⟨rfl, rfl, rfl⟩ := trodAll_nil r2
  obtain rfl : args = #[v0, v1, v2] := by cases args; simp_all
  obtain ⟨rfl, rfl⟩ := trodVars_none hV
  obtain ⟨A0, n0, c0, l0, rfl, hc0, hn0, hm0⟩ := open_floatrow (hval 0 23 v0 rfl rfl) h0
  obtain ⟨A1, n1, c1, l1, rfl, hc1, hn1, hm1⟩ := open_floatrow (hval 1 23 v1 rfl rfl) h1
  obtain ⟨a2, rfl, rfl, rfl, w2⟩ := open_float Try.underlying22 (hval 2 22 v2 rfl rfl) h2
  clear hA0 hval0
  refine (OrderJoins_walk W A0 n0 c0 l0 hc0 hn0 hm0 A1 n1 c1 l1 hc1 hn1 hm1 a2 (f64wf w2)).mono fun e W' ⟨he, hg⟩ => ?_
  subst he
  exact ⟨_, rfl, post_below (pa := p) (pv := []) hW' (fun _ _ _ => (trodAll_cons_mk (shut_bool Try.underlying4 _) trodAll_mk0))
    (fun sp hs => trodAll_stays laidOut hg sp (by kernel_rfl) hK (fun x hx => hW'.lt x (List.mem_append_left _ hx)) (fun x hx => hs x (List.mem_append_left _ hx))) (fun _ _ => rfl) rfl
    hg (ok_one (by kernel_rfl) rfl (okWide_bool_mk Try.underlying4 _))⟩

theorem OrderJoins_over : Rows.orderJoinsRow.holds Try.pinned (OpenSpec.ofChange Rows.orderJoinsSpec) :=
  OpenClaim.holds_of_wide 7 Try.f7 rfl rfl rfl rfl rfl rfl rfl ⟨rfl, rfl, rfl, rfl, rfl⟩ rfl rfl rfl rfl rfl (by kernel_rfl) Try.func7 (by kernel_rfl)
    (of_decide_eq_true (by kernel_rfl)) (by unfold Func.isWrapper; first | (rw [if_pos (by decide +kernel)]; kernel_rfl) | (rw [if_neg (by decide +kernel)]; exact ⟨rfl, rfl⟩))
    (fun os started H enc _ => OrderJoins_lifted os started H enc)

/-- The statement. -/
theorem OrderJoins_holds : Rows.OrderJoinsSaid :=
  OrderJoins_over
#print axioms OrderJoins_holds
end Go.Proofs.Ythldaebinchpdaa
