/-
  deadboltref03.Parse.
-/
import Derived.Test.YtejckkgpjcbfpaaDoorFlagsRef
namespace Go.Proofs.YtejckkgpjcbfpaaDoor
open Go.ChangeShapes Go.WideShapes Go.ChangeAt Go.RowKit
set_option linter.unusedVariables false

set_option maxHeartbeats 1000000 in
theorem rParse_short (T : ByteArray) (h : T.size < 4) (w : World) : Calls Tryd.prog 19 #[.string T] w fun e w' => e = .returned (.tuple #[.int .i64 0, .bool false]) ∧ Gr w w' := by
  have h1 : (T.size : Int) < 4 := by omega
  go_enter Tryd.func19, Tryd.ntmps19
  go_wp2_with fail
  go_ret2
  exact ⟨rfl, Gr.refl _⟩
set_option maxHeartbeats 1000000 in
theorem rParse_long (T : ByteArray) (h : 12 < T.size) (w : World) : Calls Tryd.prog 19 #[.string T] w fun e w' => e = .returned (.tuple #[.int .i64 0, .bool false]) ∧ Gr w w' := by
  have h1 : ¬ (T.size : Int) < 4 := by omega
  have h2 : (12 : Int) < (T.size : Int) := by omega
  go_enter Tryd.func19, Tryd.ntmps19
  go_wp2_with fail
  go_ret2
  exact ⟨rfl, Gr.refl _⟩

section
variable {T : ByteArray} {A B C : Bool} {X x0 x1 x2 r : Int} {s : Bool}
set_option maxHeartbeats 4000000 in
theorem rParse_run (D V : Nat → Int) (h : 4 ≤ T.size) (h2 : T.size ≤ 12) (w : World)
    (hD0 : D 3 = 0) (hD : ∀ i, 3 ≤ i → i < T.size → 48 ≤ V i ∧ V i ≤ 57 → D (i + 1) = 10 * D i + (V i - 48)) (hDb : ∀ i, i ≤ T.size → 0 ≤ D i ∧ D i < 1000000000)
    (hV : ∀ i, i < T.size → 0 ≤ V i ∧ V i ≤ 255) (iV : ∀ i : Nat, i < T.size → ∀ w, (Instr.index 9 (.string T) (.int .i64 (i : Int))).run Tryd.prog w = .ok (.int .u8 (V i)) w)
    (i0 : ∀ w, (Instr.index 9 (.string T) (.int .i64 0)).run Tryd.prog w = .ok (.int .u8 x0) w) (i1 : ∀ w, (Instr.index 9 (.string T) (.int .i64 1)).run Tryd.prog w = .ok (.int .u8 x1) w) (i2 : ∀ w, (Instr.index 9 (.string T) (.int .i64 2)).run Tryd.prog w = .ok (.int .u8 x2) w)
    (eA : (x0 == 76) = A) (eB : (x1 == 87) = B) (eC : (x2 == 83) = C) (n : Int) (hn : D T.size = n)
    (hlast : ((∀ w, Calls Tryd.prog 12 #[fl A B C n] w fun e w' => e = .returned (.bool false) ∧ Gr w w') ∧ r = 0 ∧ s = false) ∨
      ((∀ w, Calls Tryd.prog 12 #[fl A B C n] w fun e w' => e = .returned (.bool true) ∧ Gr w w') ∧ (∀ w, Calls Tryd.prog 13 #[fl A B C n] w fun e w' => e = .returned (.int .i64 X) ∧ Gr w w') ∧
        ∃ S : ByteArray, (∀ w, Calls Tryd.prog 16 #[.int .i64 X] w fun e w' => e = .returned (.string S) ∧ Gr w w') ∧ (((S.toList == T.toList) = false ∧ r = 0 ∧ s = false) ∨ (S = T ∧ r = X ∧ s = true))))
    (hno : (∃ i, 3 ≤ i ∧ i < T.size ∧ ¬ (48 ≤ V i ∧ V i ≤ 57)) → r = 0 ∧ s = false) :
    Calls Tryd.prog 19 #[.string T] w fun e w' => e = .returned (.tuple #[.int .i64 r, .bool s]) ∧ Gr w w' := by
  have h0 : ¬ ((T.size : Int) < 4) := by omega
  have h1 : ¬ ((12 : Int) < (T.size : Int)) := by omega
  go_enter Tryd.func19, Tryd.ntmps19
  go_wp2_with fail
  go_loop [4, 5] (fun n i => ∃ k : Nat, 3 ≤ k ∧ k ≤ T.size ∧ i = .int .i64 (k : Int) ∧ n = .int .i64 (D k)) (fun _ i => T.size - (intOf i).toNat)
  case atStart => exact ⟨3, by omega, by omega, rfl, by rw [hD0]⟩
  case round =>
    obtain ⟨k, hk3, hk, rfl, rfl⟩ := hrel
    by_cases hlt : k < T.size
    · have hi := iV k hlt
      have hv := hV k hlt
      have hb := hDb k hk
      have hs := hD k hk3 hlt
      have hnk := fun g => hno ⟨k, hk3, hlt, g⟩
      have HS := Lib.hid hs
      have HN := Lib.hid hnk
      have hlt' : (k : Int) < (T.size : Int) := by omega
      clear hs hnk hD hDb hV iV hno hD0
      obtain ⟨y, hy⟩ : ∃ y, D (k + 1) = y := ⟨_, rfl⟩
      generalize V k = x at *
      generalize D k = d at *
      obtain ⟨hv0, hv1⟩ := hv
      obtain ⟨hb0, hb1⟩ := hb
      by_cases g1 : x < 48
      · obtain ⟨rfl, rfl⟩ := HN.out (by omega)
        go_wp2_with fail
        go_ret2
        exact ⟨rfl, Gr.refl _⟩
      · by_cases g2 : 57 < x
        · obtain ⟨rfl, rfl⟩ := HN.out (by omega)
          go_wp2_with fail
          go_ret2
          exact ⟨rfl, Gr.refl _⟩
        · go_wp2_with fail
          go_round
          case rel => exact ⟨k + 1, by omega, by omega, by go_num, by rw [HS.out (by omega)]⟩
          case measure => simp [intOf]; omega
    · obtain rfl : k = T.size := by omega
      rw [hn]
      clear hD hDb hV iV hno hD0 hn
      go_wp2_with fail
      go_region
      all_goals (
        rcases hlast with ⟨km, rfl, rfl⟩ | ⟨km, kp, S, ks, hl⟩
        · have cm := fun w => Lib.hid (km w)
          clear km
          go_wp2_with fail
          refine (cm _).out.mono ?_
          rintro e w1 ⟨rfl, hb1⟩
          go_wp2_with fail
          go_ret2
          exact ⟨rfl, ((Gr.refl w).al _).dr.trans hb1⟩
        · have cm := fun w => Lib.hid (km w)
          have cp := fun w => Lib.hid (kp w)
          have cs := fun w => Lib.hid (ks w)
          clear km kp ks
          go_wp2_with fail
          refine (cm _).out.mono ?_
          rintro e w1 ⟨rfl, hb1⟩
          have F := ((FlAt.new w A B C n 23).gr (Gr.refl _).dr).gr hb1
          have G := ((Gr.refl w).al (.cells #[.bool A, .bool B, .bool C, .int .i64 n] 23)).dr.trans hb1
          clear hb1
          obtain ⟨f0, f1, f2, f3, f4⟩ := id F
          go_wp2_with fail
          refine (cp _).out.mono ?_
          rintro e w2 ⟨rfl, hb2⟩
          replace F := F.gr hb2
          replace G := G.trans hb2
          clear hb2 f0 f1 f2 f3 f4
          go_wp2_with fail
          refine (cs _).out.mono ?_
          rintro e w3 ⟨rfl, hb3⟩
          replace F := F.gr hb3
          replace G := G.trans hb3
          clear hb3
          obtain ⟨f0, f1, f2, f3, f4⟩ := id F
          rcases hl with ⟨hne, rfl, rfl⟩ | ⟨rfl, rfl, rfl⟩
          · go_wp2_with fail
            go_ret2
            exact ⟨rfl, G⟩
          · go_wp2_with fail
            refine (cp _).out.mono ?_
            rintro e w4 ⟨rfl, hb4⟩
            go_wp2_with fail
            go_ret2
            exact ⟨rfl, G.trans hb4⟩)
end
end Go.Proofs.YtejckkgpjcbfpaaDoor
