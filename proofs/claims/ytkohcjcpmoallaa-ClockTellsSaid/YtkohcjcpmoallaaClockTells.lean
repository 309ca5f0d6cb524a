/-
  Proved: deadboltlaw04.ClockTells returns true at every input (which numbers are times, any two together, without one another, whether that is late, and how far any are apart, is as the document says, or refused). No condition.
-/
import Derived.Test.YtkohcjcpmoallaaClockRef
import Derived.Test.YtkohcjcpmoallaaEnds
namespace Go.Proofs.Ytkohcjcpmoallaa
open Go.ChangeShapes Go.WideShapes Go.ChangeAt Go.RowKit
set_option linter.unusedVariables false

section
variable (w0 : World) (A : Option Addr) (m c : Nat) (N d t e s f W h Z : Int) (is R B : Bool)
/-- What the calls answer in this law. -/
structure TellsIs : Prop where
  tk : ∀ w, Calls Try.prog 6 #[.int .i64 N, .int .i64 d] w fun e' w' => e' = .returned (.tuple #[.int .i64 t, .int .i64 e]) ∧ Gr w w'
  si : ∀ w, Calls Try.prog 7 #[.int .i64 N, .int .i64 d] w fun e' w' => e' = .returned (.tuple #[.int .i64 s, .int .i64 f]) ∧ Gr w w'
  la : ∀ w, Calls Try.prog 8 #[.int .i64 N, .int .i64 d] w fun e' w' => e' = .returned (.tuple #[.bool is, .int .i64 f]) ∧ Gr w w'
  sp : ∀ w, Gr w0 w → Calls Try.prog 9 #[.slice A m c] w fun e' w' => e' = .returned (.tuple #[.int .i64 W, .int .i64 h]) ∧ Gr w w'
  cr : ∀ w, Calls Try.prog 10 #[.int .i64 N] w fun e' w' => e' = .returned (.bool R) ∧ Gr w w'
  rr : ∀ w, Calls Try.prog 11 #[.int .i64 N] w fun e' w' => e' = .returned (.bool R) ∧ w' = w
  al : ∀ w, Gr w0 w → Calls Try.prog 13 #[.slice A m c] w fun e' w' => e' = .returned (.bool B) ∧ w' = w
end
section
variable {w0 : World} {A : Option Addr} {n m c : Nat} {N d t e s f W h Z : Int} {is R B : Bool}
set_option maxHeartbeats 8000000 in
set_option maxRecDepth 100000 in
theorem tells_run (hnc : n ≤ c) (hn : n ≤ 9223372036854775807) (hmn : (60 < n ∧ m = 60) ∨ (n ≤ 60 ∧ m = n)) (H : TellsIs w0 A m c N d t e s f W h is R B)
    (hB : (B = false ∧ h = 1 ∧ W = 0) ∨ (B = true ∧ h = 0 ∧ ∀ w, Gr w0 w → Calls Try.prog 14 #[.slice A m c] w fun e' w' => e' = .returned (.int .i64 W) ∧ w' = w))
    (hZ : wrap64 (N + d) = Z)
    (hl : (R = false ∧ e = 1 ∧ f = 1 ∧ t = 0 ∧ s = 0 ∧ is = false) ∨
      (R = true ∧ ∃ Q, (∀ w, Calls Try.prog 11 #[.int .i64 d] w fun e' w' => e' = .returned (.bool Q) ∧ w' = w) ∧
        ((Q = false ∧ e = 1 ∧ f = 1 ∧ t = 0 ∧ s = 0 ∧ is = false) ∨
         (Q = true ∧ f = 0 ∧ (∀ w, Calls Try.prog 15 #[.int .i64 N, .int .i64 d] w fun e' w' => e' = .returned (.int .i64 s) ∧ w' = w) ∧
          (∀ w, Calls Try.prog 16 #[.int .i64 N, .int .i64 d] w fun e' w' => e' = .returned (.bool is) ∧ w' = w) ∧
          ∃ S, (∀ w, Calls Try.prog 11 #[.int .i64 Z] w fun e' w' => e' = .returned (.bool S) ∧ w' = w) ∧ ((S = false ∧ e = 10 ∧ t = 0) ∨ (S = true ∧ e = 0 ∧ t = Z)))))) :
    Calls Try.prog 3 #[.int .i64 N, .int .i64 d, .slice A n c] w0 fun e w' => e = .returned (.bool true) ∧ Gr w0 w' := by
  obtain ⟨tk, si, la, sp, cr, rr, al⟩ := H
  have c1 := fun w => Lib.hid (tk w)
  have c2 := fun w => Lib.hid (si w)
  have c3 := fun w => Lib.hid (la w)
  have c4 := fun w g => Lib.hid (sp w g)
  have c5 := fun w => Lib.hid (cr w)
  have c6 := fun w => Lib.hid (rr w)
  have c7 := fun w g => Lib.hid (al w g)
  have HZ := Lib.hid hZ
  have HB := Lib.hid hB
  have HL := Lib.hid hl
  clear tk si la sp cr rr al hZ hB hl
  rcases hmn with ⟨h60, rfl⟩ | ⟨h60, rfl⟩
  · go_enter Try.func3, Try.ntmps3
    have G := Gr.refl w0
    go_wp2_with fail
    refine (c1 _).out.mono ?_
    rintro e w1 ⟨rfl, hb1⟩
    replace G := G.trans hb1
    clear hb1
    go_wp2_with fail
    refine (c2 _).out.mono ?_
    rintro e w2 ⟨rfl, hb2⟩
    replace G := G.trans hb2
    clear hb2
    go_wp2_with fail
    refine (c3 _).out.mono ?_
    rintro e w3 ⟨rfl, hb3⟩
    replace G := G.trans hb3
    clear hb3
    go_wp2_with fail
    refine (c4 _ G).out.mono ?_
    rintro e w4 ⟨rfl, hb4⟩
    replace G := G.trans hb4
    clear hb4
    go_wp2_with fail
    refine (c5 _).out.mono ?_
    rintro e w5 ⟨rfl, hb5⟩
    replace G := G.trans hb5
    clear hb5
    go_wp2_with fail
    refine (c6 _).out.mono ?_
    rintro e w6 ⟨rfl, rfl⟩
    go_wp2_with fail
    refine (alive4_ok _).mono ?_
    rintro e w7 ⟨rfl, hb7⟩
    replace G := G.trans hb7
    clear hb7
    go_wp2_with fail
    refine (c7 _ G).out.mono ?_
    rintro e w8 ⟨rfl, rfl⟩
    rcases HB.out with ⟨rfl, rfl, rfl⟩ | ⟨rfl, rfl, ksp⟩
    · clear HB
      go_wp2_with fail
      rcases HL.out with ⟨rfl, rfl, rfl, rfl, rfl, rfl⟩ | ⟨rfl, Q, kq, hq⟩
      · clear HL
        refine (c6 _).out.mono ?_
        rintro e w20 ⟨rfl, rfl⟩
        go_wp2_with fail
        go_ret
        exact ⟨rfl, G⟩
      · clear HL
        have cq := fun w => Lib.hid (kq w)
        clear kq
        refine (c6 _).out.mono ?_
        rintro e w20 ⟨rfl, rfl⟩
        go_wp2_with fail
        rcases hq with ⟨rfl, rfl, rfl, rfl, rfl, rfl⟩ | ⟨rfl, rfl, ks, kl, S, kz, hz⟩
        · refine (cq _).out.mono ?_
          rintro e w21 ⟨rfl, rfl⟩
          go_wp2_with fail
          go_ret
          exact ⟨rfl, G⟩
        · have cs := fun w => Lib.hid (ks w)
          have cl := fun w => Lib.hid (kl w)
          have cz := fun w => Lib.hid (kz w)
          clear ks kl kz
          refine (cq _).out.mono ?_
          rintro e w21 ⟨rfl, rfl⟩
          go_wp2_with fail
          refine (cs _).out.mono ?_
          rintro e w22 ⟨rfl, rfl⟩
          go_wp2_with fail
          refine (cl _).out.mono ?_
          rintro e w23 ⟨rfl, rfl⟩
          go_wp2_with fail
          rw [HZ.out]
          refine (cz _).out.mono ?_
          rintro e w24 ⟨rfl, rfl⟩
          rcases hz with ⟨rfl, rfl, rfl⟩ | ⟨rfl, rfl, rfl⟩
          · go_wp2_with fail
            go_ret
            exact ⟨rfl, G⟩
          · have hZ := HZ.out
            clear HZ
            go_wp2_with fail
            go_ret
            exact ⟨rfl, G⟩
    · clear HB
      have csp := fun w g => Lib.hid (ksp w g)
      clear ksp
      go_wp2_with fail
      refine (csp _ G).out.mono ?_
      rintro e w9 ⟨rfl, rfl⟩
      go_wp2_with fail
      rcases HL.out with ⟨rfl, rfl, rfl, rfl, rfl, rfl⟩ | ⟨rfl, Q, kq, hq⟩
      · clear HL
        refine (c6 _).out.mono ?_
        rintro e w20 ⟨rfl, rfl⟩
        go_wp2_with fail
        go_ret
        exact ⟨rfl, G⟩
      · clear HL
        have cq := fun w => Lib.hid (kq w)
        clear kq
        refine (c6 _).out.mono ?_
        rintro e w20 ⟨rfl, rfl⟩
        go_wp2_with fail
        rcases hq with ⟨rfl, rfl, rfl, rfl, rfl, rfl⟩ | ⟨rfl, rfl, ks, kl, S, kz, hz⟩
        · refine (cq _).out.mono ?_
          rintro e w21 ⟨rfl, rfl⟩
          go_wp2_with fail
          go_ret
          exact ⟨rfl, G⟩
        · have cs := fun w => Lib.hid (ks w)
          have cl := fun w => Lib.hid (kl w)
          have cz := fun w => Lib.hid (kz w)
          clear ks kl kz
          refine (cq _).out.mono ?_
          rintro e w21 ⟨rfl, rfl⟩
          go_wp2_with fail
          refine (cs _).out.mono ?_
          rintro e w22 ⟨rfl, rfl⟩
          go_wp2_with fail
          refine (cl _).out.mono ?_
          rintro e w23 ⟨rfl, rfl⟩
          go_wp2_with fail
          rw [HZ.out]
          refine (cz _).out.mono ?_
          rintro e w24 ⟨rfl, rfl⟩
          rcases hz with ⟨rfl, rfl, rfl⟩ | ⟨rfl, rfl, rfl⟩
          · go_wp2_with fail
            go_ret
            exact ⟨rfl, G⟩
          · have hZ := HZ.out
            clear HZ
            go_wp2_with fail
            go_ret
            exact ⟨rfl, G⟩
  · go_enter Try.func3, Try.ntmps3
    have G := Gr.refl w0
    go_wp2_with fail
    refine (c1 _).out.mono ?_
    rintro e w1 ⟨rfl, hb1⟩
    replace G := G.trans hb1
    clear hb1
    go_wp2_with fail
    refine (c2 _).out.mono ?_
    rintro e w2 ⟨rfl, hb2⟩
    replace G := G.trans hb2
    clear hb2
    go_wp2_with fail
    refine (c3 _).out.mono ?_
    rintro e w3 ⟨rfl, hb3⟩
    replace G := G.trans hb3
    clear hb3
    go_wp2_with fail
    refine (c4 _ G).out.mono ?_
    rintro e w4 ⟨rfl, hb4⟩
    replace G := G.trans hb4
    clear hb4
    go_wp2_with fail
    refine (c5 _).out.mono ?_
    rintro e w5 ⟨rfl, hb5⟩
    replace G := G.trans hb5
    clear hb5
    go_wp2_with fail
    refine (c6 _).out.mono ?_
    rintro e w6 ⟨rfl, rfl⟩
    go_wp2_with fail
    refine (alive4_ok _).mono ?_
    rintro e w7 ⟨rfl, hb7⟩
    replace G := G.trans hb7
    clear hb7
    go_wp2_with fail
    refine (c7 _ G).out.mono ?_
    rintro e w8 ⟨rfl, rfl⟩
    rcases HB.out with ⟨rfl, rfl, rfl⟩ | ⟨rfl, rfl, ksp⟩
    · clear HB
      go_wp2_with fail
      rcases HL.out with ⟨rfl, rfl, rfl, rfl, rfl, rfl⟩ | ⟨rfl, Q, kq, hq⟩
      · clear HL
        refine (c6 _).out.mono ?_
        rintro e w20 ⟨rfl, rfl⟩
        go_wp2_with fail
        go_ret
        exact ⟨rfl, G⟩
      · clear HL
        have cq := fun w => Lib.hid (kq w)
        clear kq
        refine (c6 _).out.mono ?_
        rintro e w20 ⟨rfl, rfl⟩
        go_wp2_with fail
        rcases hq with ⟨rfl, rfl, rfl, rfl, rfl, rfl⟩ | ⟨rfl, rfl, ks, kl, S, kz, hz⟩
        · refine (cq _).out.mono ?_
          rintro e w21 ⟨rfl, rfl⟩
          go_wp2_with fail
          go_ret
          exact ⟨rfl, G⟩
        · have cs := fun w => Lib.hid (ks w)
          have cl := fun w => Lib.hid (kl w)
          have cz := fun w => Lib.hid (kz w)
          clear ks kl kz
          refine (cq _).out.mono ?_
          rintro e w21 ⟨rfl, rfl⟩
          go_wp2_with fail
          refine (cs _).out.mono ?_
          rintro e w22 ⟨rfl, rfl⟩
          go_wp2_with fail
          refine (cl _).out.mono ?_
          rintro e w23 ⟨rfl, rfl⟩
          go_wp2_with fail
          rw [HZ.out]
          refine (cz _).out.mono ?_
          rintro e w24 ⟨rfl, rfl⟩
          rcases hz with ⟨rfl, rfl, rfl⟩ | ⟨rfl, rfl, rfl⟩
          · go_wp2_with fail
            go_ret
            exact ⟨rfl, G⟩
          · have hZ := HZ.out
            clear HZ
            go_wp2_with fail
            go_ret
            exact ⟨rfl, G⟩
    · clear HB
      have csp := fun w g => Lib.hid (ksp w g)
      clear ksp
      go_wp2_with fail
      refine (csp _ G).out.mono ?_
      rintro e w9 ⟨rfl, rfl⟩
      go_wp2_with fail
      rcases HL.out with ⟨rfl, rfl, rfl, rfl, rfl, rfl⟩ | ⟨rfl, Q, kq, hq⟩
      · clear HL
        refine (c6 _).out.mono ?_
        rintro e w20 ⟨rfl, rfl⟩
        go_wp2_with fail
        go_ret
        exact ⟨rfl, G⟩
      · clear HL
        have cq := fun w => Lib.hid (kq w)
        clear kq
        refine (c6 _).out.mono ?_
        rintro e w20 ⟨rfl, rfl⟩
        go_wp2_with fail
        rcases hq with ⟨rfl, rfl, rfl, rfl, rfl, rfl⟩ | ⟨rfl, rfl, ks, kl, S, kz, hz⟩
        · refine (cq _).out.mono ?_
          rintro e w21 ⟨rfl, rfl⟩
          go_wp2_with fail
          go_ret
          exact ⟨rfl, G⟩
        · have cs := fun w => Lib.hid (ks w)
          have cl := fun w => Lib.hid (kl w)
          have cz := fun w => Lib.hid (kz w)
          clear ks kl kz
          refine (cq _).out.mono ?_
          rintro e w21 ⟨rfl, rfl⟩
          go_wp2_with fail
          refine (cs _).out.mono ?_
          rintro e w22 ⟨rfl, rfl⟩
          go_wp2_with fail
          refine (cl _).out.mono ?_
          rintro e w23 ⟨rfl, rfl⟩
          go_wp2_with fail
          rw [HZ.out]
          refine (cz _).out.mono ?_
          rintro e w24 ⟨rfl, rfl⟩
          rcases hz with ⟨rfl, rfl, rfl⟩ | ⟨rfl, rfl, rfl⟩
          · go_wp2_with fail
            go_ret
            exact ⟨rfl, G⟩
          · have hZ := HZ.out
            clear HZ
            go_wp2_with fail
            go_ret
            exact ⟨rfl, G⟩
end

theorem row_tm (l : List Int) : ∀ k, mnk l (k + 1) ≤ mxk l (k + 1) ∧ ((Tm (mnk l (k + 1)) ∧ Tm (mxk l (k + 1))) ↔ ∀ i, i < k + 1 → Tm (l.getD i 0))
  | 0 => by
    have e1 : mnk l 1 = l.getD 0 0 := by show min (l.getD 0 0) (l.getD 0 0) = _; omega
    have e2 : mxk l 1 = l.getD 0 0 := by show max (l.getD 0 0) (l.getD 0 0) = _; omega
    refine ⟨by show mnk l 1 ≤ mxk l 1; omega, ?_⟩
    show (Tm (mnk l 1) ∧ Tm (mxk l 1)) ↔ _
    rw [e1, e2]
    exact ⟨fun h i hi => by obtain rfl : i = 0 := by omega
                            exact h.1, fun h => ⟨h 0 (by omega), h 0 (by omega)⟩⟩
  | k + 1 => by
    obtain ⟨h1, h2⟩ := row_tm l k
    have e1 : mnk l (k + 1 + 1) = min (mnk l (k + 1)) (l.getD (k + 1) 0) := rfl
    have e2 : mxk l (k + 1 + 1) = max (mxk l (k + 1)) (l.getD (k + 1) 0) := rfl
    refine ⟨by omega, ?_⟩
    rw [e1, e2]
    constructor
    · intro h i hi
      have h3 : Tm (mnk l (k + 1)) ∧ Tm (mxk l (k + 1)) := by unfold Tm at *; omega
      by_cases hik : i < k + 1
      · exact h2.1 h3 i hik
      · obtain rfl : i = k + 1 := by omega
        unfold Tm at *
        omega
    · intro h
      have h3 := h2.2 (fun i hi => h i (by omega))
      have h4 := h (k + 1) (by omega)
      unfold Tm at *
      omega

/-- What the two Spreads and All answer of a row. -/
theorem spr (w0 : World) (A : Option Addr) (m c : Nat) (L : List Int) (hm : IMem w0 A m L) (hn : m ≤ 9223372036854775807) : ∃ (W h : Int) (B : Bool),
    (∀ w, Gr w0 w → Calls Try.prog 9 #[.slice A m c] w fun e' w' => e' = .returned (.tuple #[.int .i64 W, .int .i64 h]) ∧ Gr w w') ∧
    (∀ w, Gr w0 w → Calls Try.prog 13 #[.slice A m c] w fun e' w' => e' = .returned (.bool B) ∧ w' = w) ∧
    ((B = false ∧ h = 1 ∧ W = 0) ∨ (B = true ∧ h = 0 ∧ ∀ w, Gr w0 w → Calls Try.prog 14 #[.slice A m c] w fun e' w' => e' = .returned (.int .i64 W) ∧ w' = w)) := by
  have hg : (∀ i, i < m → Tm (L.getD i 0)) ↔ ∀ x ∈ L, Tm x := by
    constructor
    · intro h x hx
      obtain ⟨j, hj⟩ := List.getElem?_of_mem hx
      have hl := (List.getElem?_eq_some_iff.1 hj).1
      have := h j (by have := hm.1; omega)
      rwa [List.getD_eq_getElem?_getD, hj] at this
    · intro h i hi
      have hl : i < L.length := by have := hm.1; omega
      rw [List.getD_eq_getElem?_getD, List.getElem?_eq_getElem hl]
      exact h _ (List.getElem_mem hl)
  cases m with
  | zero => exact ⟨0, 0, true, fun w _ => Spread_nil A c w, fun w g => rAll_ok A 0 c L w (hm.gr g) hn true ⟨fun _ => hg.1 (fun i hi => absurd hi (by omega)), fun _ => rfl⟩, .inr ⟨rfl, rfl, fun w g => rSpread_ok A 0 c L w (hm.gr g) hn (fun i hi => absurd hi (by omega))⟩⟩
  | succ k =>
    obtain ⟨h1, h2⟩ := row_tm L k
    by_cases ht : Tm (mnk L (k + 1)) ∧ Tm (mxk L (k + 1))
    · have hi := h2.1 ht
      refine ⟨gap (mnk L (k + 1)) (mxk L (k + 1)), 0, true, fun w g => Spread_is A (k + 1) c L w (hm.gr g) (by omega) hn _ _ (.inl ⟨ht.1, ht.2, rfl, rfl⟩), fun w g => rAll_ok A (k + 1) c L w (hm.gr g) hn true ⟨fun _ => hg.1 hi, fun _ => rfl⟩, .inr ⟨rfl, rfl, fun w g => ?_⟩⟩
      have := rSpread_ok A (k + 1) c L w (hm.gr g) hn hi
      rwa [outr_is] at this
    · exact ⟨0, 1, false, fun w g => Spread_is A (k + 1) c L w (hm.gr g) (by omega) hn _ _ (.inr ⟨ht, rfl, rfl⟩), fun w g => rAll_ok A (k + 1) c L w (hm.gr g) hn false ⟨fun h => absurd h (by decide), fun h => absurd (h2.2 (hg.2 h)) ht⟩, .inl ⟨rfl, rfl, rfl⟩⟩

theorem ClockTells_walk (w : World) (N : Int) (hN : -9223372036854775808 ≤ N ∧ N ≤ 9223372036854775807) (d : Int) (hd : -9223372036854775808 ≤ d ∧ d ≤ 9223372036854775807) (A : Option Addr) (n c : Nat) (l : List Int) (hc : n ≤ c) (hn : n ≤ 9223372036854775807) (hm : IMem w A n l) :
    Calls Try.prog 3 #[.int .i64 N, .int .i64 d, .slice A n c] w fun e w' => e = .returned (.bool true) ∧ Gr w w' := by
  obtain ⟨m, hmn⟩ : ∃ m, (60 < n ∧ m = 60) ∨ (n ≤ 60 ∧ m = n) := by
    by_cases h : 60 < n
    · exact ⟨60, .inl ⟨h, rfl⟩⟩
    · exact ⟨n, .inr ⟨by omega, rfl⟩⟩
  have hmle : m ≤ n := by omega
  obtain ⟨W, h, B, k1, k2, k3⟩ := spr w A m c (l.take m) (hm.take_ m hmle) (by omega)
  by_cases tN : Tm N
  · have rN : (N == near N) = true := by rw [near_eq tN]; simp
    by_cases td : Tm d
    · by_cases ho : N + d ≤ 4611686018427387904
      · have hZ : wrap64 (N + d) = N + d := by unfold Tm at *; unfold wrap64; omega
        have tZ : Tm (N + d) := by unfold Tm at *; omega
        refine tells_run (t := N + d) (e := 0) (s := gap d N) (f := 0) (is := decide (1000000 < gap d N)) (R := true) hc hn hmn
          ⟨fun w => Tick_is (.inl ⟨tN, td, ho, rfl, rfl⟩) w, fun w => Since_is (.inl ⟨td, tN, rfl, rfl⟩) w, fun w => Late_is (.inl ⟨td, tN, rfl, rfl⟩) _ (by simp) w, k1, fun w => Right_ok N true rN w, fun w => rRight_yes N tN w, k2⟩ k3 hZ
          (.inr ⟨rfl, true, fun w => rRight_yes d td w, .inr ⟨rfl, rfl, fun w => rSince_ok d N td tN w, fun w => rLate_ok d N td tN w, true, fun w => rRight_yes _ tZ w, .inr ⟨rfl, rfl, rfl⟩⟩⟩)
      · have tZ : ¬ Tm (wrap64 (N + d)) := by unfold Tm at *; unfold wrap64; omega
        refine tells_run (t := 0) (e := 10) (s := gap d N) (f := 0) (is := decide (1000000 < gap d N)) (R := true) hc hn hmn
          ⟨fun w => Tick_is (.inr (.inl ⟨tN, td, by omega, rfl, rfl⟩)) w, fun w => Since_is (.inl ⟨td, tN, rfl, rfl⟩) w, fun w => Late_is (.inl ⟨td, tN, rfl, rfl⟩) _ (by simp) w, k1, fun w => Right_ok N true rN w, fun w => rRight_yes N tN w, k2⟩ k3 rfl
          (.inr ⟨rfl, true, fun w => rRight_yes d td w, .inr ⟨rfl, rfl, fun w => rSince_ok d N td tN w, fun w => rLate_ok d N td tN w, false, fun w => rRight_no _ tZ w, .inl ⟨rfl, rfl, rfl⟩⟩⟩)
    · refine tells_run (t := 0) (e := 1) (s := 0) (f := 1) (is := false) (R := true) hc hn hmn
        ⟨fun w => Tick_is (.inr (.inr ⟨fun h => td h.2, rfl, rfl⟩)) w, fun w => Since_is (.inr ⟨fun h => td h.1, rfl, rfl⟩) w, fun w => Late_is (r := 0) (.inr ⟨fun h => td h.1, rfl, rfl⟩) _ (by decide) w, k1, fun w => Right_ok N true rN w, fun w => rRight_yes N tN w, k2⟩ k3 rfl
        (.inr ⟨rfl, false, fun w => rRight_no d td w, .inl ⟨rfl, rfl, rfl, rfl, rfl, rfl⟩⟩)
  · refine tells_run (t := 0) (e := 1) (s := 0) (f := 1) (is := false) (R := false) hc hn hmn
      ⟨fun w => Tick_is (.inr (.inr ⟨fun h => tN h.1, rfl, rfl⟩)) w, fun w => Since_is (.inr ⟨fun h => tN h.2, rfl, rfl⟩) w, fun w => Late_is (r := 0) (.inr ⟨fun h => tN h.2, rfl, rfl⟩) _ (by decide) w, k1, fun w => Right_ok N false (near_ne tN) w, fun w => rRight_no N tN w, k2⟩ k3 rfl
      (.inl ⟨rfl, rfl, rfl, rfl, rfl, rfl⟩)

set_option maxRecDepth 100000 in
theorem ClockTells_lifted (os : Os) (started : os.Started) (H : Type) (enc : TypeId × Value → H) :
    ReturnsInHanded {} Try.checked os 3 .any (Rows.clockTellsSpec.pre6 enc Try.prog Try.f3 Rows.clockTellsRow.domain false) (Rows.clockTellsSpec.post enc Try.prog Try.f3 false true false false) := by
  refine returnsInHanded_of_change (C := Try.checked) own started (by kernel_rfl) Try.func3
    (ChangeSpec.witness6 (enc := enc) (C := Try.checked) false ⟨#[], #[.int .i64 0, .int .i64 0, .slice none 0 0], []⟩ 8 (by kernel_rfl) (by kernel_rfl) (by kernel_rfl) (by kernel_rfl)) ?_
  intro W base args ds gs before hval0 hW hcnd _
  have hval : ∀ (j : Nat) t v, Try.f3.params[j]? = some t → args[j]? = some v → Value.okWide Try.prog W .any base t v := hval0
  have hW' := hW
  obtain ⟨p, q, hA0, hV, rfl, hfz, hnd⟩ := hW
  have hA : DataW.TrodAll enc Try.prog W 0 (fun _ => true) true Try.f3.params.toList args.toList ds p := hA0
  rw [Try.params3] at hA hval
  have hK := hA
  obtain ⟨v0, vs0, d0, ds0, p0, q0, hargs, rfl, hp, h0, r0⟩ := trodAll_cons hA
  obtain ⟨v1, vs1, d1, ds1, p1, q1, rfl, rfl, rfl, h1, r1⟩ := trodAll_cons r0
  obtain ⟨v2, vs2, d2, ds2, p2, q2, rfl, rfl, rfl, h2, r2⟩ := trodAll_cons r1
  obtain ⟨rfl, rfl, rfl⟩ := trodAll_nil r2
  obtain rfl : args = #[v0, v1, v2] := by cases args; simp_all
  obtain ⟨rfl, rfl⟩ := trodVars_none hV
  obtain ⟨a0, rfl, rfl, rfl, w0⟩ := open_int Try.underlying3 (hval 0 3 v0 rfl rfl) h0
  obtain ⟨a1, rfl, rfl, rfl, w1⟩ := open_int Try.underlying3 (hval 1 3 v1 rfl rfl) h1
  obtain ⟨A2, n2, c2, l2, rfl, hc2, hn2, hm2⟩ := open_introw (hval 2 22 v2 rfl rfl) h2
  clear hA0 hval0
  refine (ClockTells_walk W a0 (wfb w0) a1 (wfb w1) A2 n2 c2 l2 hc2 hn2 hm2).mono fun e W' ⟨he, hg⟩ => ?_
  subst he
  exact ⟨_, rfl, post_below (pa := p) (pv := []) hW' (fun _ _ _ => (trodAll_cons_mk (shut_bool Try.underlying4 _) trodAll_mk0))
    (fun sp hs => trodAll_stays laidOut hg sp (by kernel_rfl) hK (fun x hx => hW'.lt x (List.mem_append_left _ hx)) (fun x hx => hs x (List.mem_append_left _ hx))) (fun _ _ => rfl) rfl
    hg (ok_one (by kernel_rfl) rfl (okWide_bool_mk Try.underlying4 _))⟩

theorem ClockTells_over : Rows.clockTellsRow.holds Try.pinned (OpenSpec.ofChange Rows.clockTellsSpec) :=
  OpenClaim.holds_of_wide 3 Try.f3 rfl rfl rfl rfl rfl rfl rfl ⟨rfl, rfl, rfl, rfl, rfl⟩ rfl rfl rfl rfl rfl (by kernel_rfl) Try.func3 (by kernel_rfl)
    (of_decide_eq_true (by kernel_rfl)) (by unfold Func.isWrapper; first | (rw [if_pos (by decide +kernel)]; kernel_rfl) | (rw [if_neg (by decide +kernel)]; exact ⟨rfl, rfl⟩))
    (fun os started H enc _ => ClockTells_lifted os started H enc)

/-- The statement. -/
theorem ClockTells_holds : Rows.ClockTellsSaid :=
  ClockTells_over
#print axioms ClockTells_holds
end Go.Proofs.Ytkohcjcpmoallaa
