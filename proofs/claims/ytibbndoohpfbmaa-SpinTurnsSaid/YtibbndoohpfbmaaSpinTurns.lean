/-
  Proved: deadboltlaw06.SpinTurns returns true at every input (tickets are served in the order in which they were drawn, wherever they begin, each when all that were out ahead of it are done, and none is served twice). No condition.
-/
import Derived.Test.YtibbndoohpfbmaaSpinLine
namespace Go.Proofs.Ytibbndoohpfbmaa
open Go.ChangeShapes Go.WideShapes Go.ChangeAt Go.RowKit
set_option linter.unusedVariables false

set_option maxHeartbeats 8000000 in
set_option maxRecDepth 100000 in
theorem turns_run (w : World) (from_ : Int) (hf : B64 from_) (b off n c : Nat) (l : List Bool) (h0 : 0 < n) (hc : n ≤ c) (hn : n ≤ 9223372036854775807) (hm : BMem w (some ⟨b, off, none⟩) n l)
    (m : Nat) (hmn : (200 < n ∧ m = 200) ∨ (n ≤ 200 ∧ m = n)) :
    Calls Try.prog 4 #[.int .i64 from_, .slice (some ⟨b, off, none⟩) n c] w fun e w' => e = .returned (.bool true) ∧ Gr w w' := by
  obtain ⟨F, hF⟩ : ∃ F, wd 1 from_ = F := ⟨_, rfl⟩
  have k1 := fun w => Lib.hid (Wrap_is (k := 1) hF (by omega) hf w)
  have hF0 : atN 1 F 0 = F := by
    rw [at1_eq, ← hF]; simp [wd]
  have HM1 : (if (200 : Int) < (n : Int) then (200 : Int) else (n : Int)) = (m : Int) := by split <;> omega
  have m200 : m ≤ 200 := by omega
  have mn : m ≤ n := by omega
  have hc0 : ¬ c = 0 := by omega
  have hmc1 : (m : Int) ≤ (c : Int) := by omega
  have hm1 : (0 : Int) ≤ (m : Int) := by omega
  have HM := Lib.hid hm
  obtain ⟨i0, hi0, hz0, hz1, hz2⟩ := info_parts infoInt
  have HZ := Lib.hid hz0
  have HZ1 := Lib.hid hz1
  have HZ2 := Lib.hid hz2
  have HI0 := Lib.hid hi0
  clear hF hmn hm hz0 hz1 hz2 hi0
  go_enter Try.func4, Try.ntmps4
  go_wp2_with fail
  refine (k1 _).out.mono ?_
  rintro e w1 ⟨rfl, hb1⟩
  go_wp2_with fail
  have T0 := Lib.hid (Two.new w1 F F)
  have G0 := Lib.hid (hb1.al (.cells #[.int .i64 F, .int .i64 F] 23))
  have hT : w.heap.size ≤ w1.heap.size := hb1.size
  clear HM1 hb1 k1
  go_loopw [7, 37] (fun L i wr => ∃ (j dn k : Nat) (A' : Option Addr) (c' : Nat), L = .slice A' k c' ∧ i = .int .i64 (j : Int) ∧ j ≤ m ∧ dn + k ≤ j ∧ Hid (IOwn (w1.heap.size + 1) wr A' k c' (ln F dn k)) ∧ Hid (Two wr w1.heap.size (atN 1 F (dn + k)) (atN 1 F dn)) ∧ Hid (Gr w wr)) (fun _ i _ => m - (intOf i).toNat)
  case atStart => exact ⟨0, 0, 0, none, 0, rfl, rfl, Nat.zero_le _, Nat.zero_le _, Lib.hid OMem.nil_, Lib.hid (by rw [hF0]; exact T0.out), G0⟩
  case round =>
    clear T0 G0
    obtain ⟨j, dn, k, A', c', rfl, rfl, hj, hdk, HL, HT, HG⟩ := hrel
    by_cases hlt : j < m
    · obtain ⟨b', off', x, hb', hbl, hx, _, hcx⟩ := (HM.out.gr HG.out).at_ (show j < n by omega)
      cases hb'
      obtain ⟨q0, q1⟩ := HT.out.cells
      cases x
      · 
        by_cases hk0 : k = 0
        · subst hk0
          have d1 := fun w => Lib.hid (Done_at0 F dn w)
          simp only [Nat.add_zero] at *
          generalize h2 : atN 1 F dn = a0 at *
          have HS := Lib.hid h2
          clear h2
          go_wp2_with fail
          refine (d1 _).out.mono ?_
          rintro e w2 ⟨rfl, hb2⟩
          go_wp2_with fail
          go_roundw
          case rel => exact ⟨j + 1, dn, 0, A', c', rfl, by go_num, by omega, by omega, Lib.hid ((HL.out.gr hb2).gr ((Gr.refl _).al _)), Lib.hid (by rw [Nat.add_zero, HS.out]; exact (HT.out.gr hb2).gr ((Gr.refl _).al _)), Lib.hid ((HG.out.trans hb2).al _)⟩
          case measure => simp [intOf]; omega
        · have d1 := fun w => Lib.hid (Done_at F dn k (by omega) (by omega) w)
          obtain ⟨dn1, hdn1⟩ : ∃ x, x = dn + 1 := ⟨_, rfl⟩
          obtain ⟨K, hK⟩ : ∃ x, x = k - 1 := ⟨_, rfl⟩
          have hld := ln_drop F dn k
          rw [← hdn1, ← hK] at d1 hld
          obtain ⟨g, o, hgo⟩ : ∃ g o, A' = some ⟨g, o, none⟩ := by
            obtain ⟨g, o, h, _⟩ := HL.out.mem.2.2 (by omega)
            exact ⟨g, o, h⟩
          subst hgo
          have hcut := HL.out.cut 1 (by omega)
          have hkc := HL.out.le
          rw [hld, ← hK] at hcut
          generalize h1 : atN 1 F (dn + k) = a1 at *
          generalize h2 : atN 1 F dn = a3 at *
          generalize h3 : atN 1 F dn1 = a0 at *
          generalize h4 : atN 1 F (dn1 + K) = a2 at *
          have HS := Lib.hid h3
          have HN := Lib.hid h4
          have z1 : (1 : Int) ≤ (k : Int) := by omega
          have z2 : (k : Int) ≤ (c' : Int) := by omega
          have z3 : (1 : Int) ≤ (c' : Int) := by omega
          have t0 : ((k : Int) == 0) = false := beq_eq_false_iff_ne.2 (by omega)
          clear h1 h2 h3 h4
          go_wp2_with fail
          refine (d1 _).out.mono ?_
          rintro e w2 ⟨rfl, hb2⟩
          go_wp2_with fail
          have G2 : Gr w w2 := HG.out.trans hb2
          have N2 := Two.new w2 a2 a0
          have gX := (Gr.refl w2).al (.cells #[.int .i64 a2, .int .i64 a0] 23)
          have U2 := (HT.out.gr hb2).gr gX
          have L2 := (hcut.gr hb2).gr gX
          have hlt2 := (HT.out.gr hb2).lt
          have hTN : w2.heap.size ≠ w1.heap.size := by omega
          have V2 := HT.out.gr hb2
          have u40 := V2.cells.1
          have u41 := V2.cells.2
          have u42 := V2.frozen 0
          have u43 := V2.frozen 1
          have hNT : w1.heap.size ≠ w2.heap.size := by omega
          have HA : (if c' = 1 then (some ⟨g, o, none⟩ : Option Addr) else some ⟨g, o + 1, none⟩) = (if c' - 1 = 0 then (some ⟨g, o, none⟩ : Option Addr) else (some (⟨g, o, none⟩ : Addr)).map (·.add 1)) := by
            rw [Option.map_some, add_plain]
            split <;> split <;> first | rfl | omega
          generalize (if c' - 1 = 0 then (some ⟨g, o, none⟩ : Option Addr) else (some (⟨g, o, none⟩ : Addr)).map (·.add 1)) = A2 at *
          clear q0 q1
          have hsw : ((w2.setCell ⟨w1.heap.size, 0, none⟩ (.int .i64 a2)).setCell ⟨w1.heap.size, 1, none⟩ (.int .i64 a0)).heap.size = w2.heap.size := by simp [World.setCell]
          go_region_held3 (fun w' => w'.cell? ⟨w2.heap.size, 0, none⟩ = some (.int .i64 a2) ∧ w'.cell? ⟨w2.heap.size, 1, none⟩ = some (.int .i64 a0))
            (first
              | exact N2.cells
              | exact (Two.new' _ a2 a0 hsw).cells)
            (fail)
          have gZ := ((Gr.refl ((w2.setCell ⟨w1.heap.size, 0, none⟩ (.int .i64 a2)).setCell ⟨w1.heap.size, 1, none⟩ (.int .i64 a0))).al (.cells #[.int .i64 a2, .int .i64 a0] 23)).dr
          have U5 := Lib.hid (((V2.set0 a2).set1 a0).gr gZ)
          have L5 := Lib.hid ((((hcut.gr hb2).st (p := ⟨w1.heap.size, 0, none⟩) (Nat.lt_succ_self _) (.int .i64 a2)).st (p := ⟨w1.heap.size, 1, none⟩) (Nat.lt_succ_self _) (.int .i64 a0)).gr gZ)
          have G5 := Lib.hid (((G2.st (p := ⟨w1.heap.size, 0, none⟩) hT (.int .i64 a2)).st (p := ⟨w1.heap.size, 1, none⟩) hT (.int .i64 a0)).trans gZ)
          rw [← hK]
          clear u40 u41 u42 u43 hNT HA hsw gZ V2 L2 U2 gX N2 HT HL HG hb2 G2 hlt2 hTN hbl hcx hx d1 hcut z1 z2 z3 t0
          generalize hw5 : (((w2.setCell ⟨w1.heap.size, 0, none⟩ (.int .i64 a2)).setCell ⟨w1.heap.size, 1, none⟩ (.int .i64 a0)).alloc (.cells #[.int .i64 a2, .int .i64 a0] 23)).drew = w5 at *
          clear hw5
          generalize hc2 : c' - 1 = c2 at *
          have hK1 : dn1 + K ≤ j + 1 := by omega
          have hK2 : K ≤ 201 := by omega
          clear hc2 hK hkc
          obtain ⟨q0, q1⟩ := U5.out.cells
          have o1 := fun w => Lib.hid (Out_at F dn1 K (by omega) w)
          have o2 := fun q (hq : q < K) w => Lib.hid (Turn_at F dn1 K q (by omega) w)
          simp only [HN.out, HS.out] at o1 o2
          have t1 : ((K : Int) != (K : Int)) = false := by simp
          go_wp2_with fail
          refine (o1 _).out.mono ?_
          rintro e w6 ⟨rfl, hb6⟩
          have U6 := Lib.hid (U5.out.gr hb6)
          have L6 := Lib.hid (L5.out.gr hb6)
          have G6 := Lib.hid (G5.out.trans hb6)
          clear U5 L5 G5 hb6 o1 q0 q1
          go_wp2_with fail
          go_loopw [85] (fun i wr => ∃ q : Nat, i = .int .i64 (q : Int) ∧ q ≤ K ∧ Hid (Two wr w1.heap.size a2 a0) ∧ Hid (IOwn (w1.heap.size + 1) wr A2 K c2 (ln F dn1 K)) ∧ Hid (Gr w wr)) (fun i _ => K - (intOf i).toNat)
          case atStart => exact ⟨0, rfl, Nat.zero_le _, U6, L6, G6⟩
          case round =>
            clear U6 L6 G6
            obtain ⟨q, rfl, hq, U6, L6, G6⟩ := hrel
            by_cases hqk : q < K
            · obtain ⟨b6, off6, x, hA6, hbl6, hx6, hxb6, hc6⟩ := L6.out.mem.at_ hqk
              rw [ln_get hqk] at hx6
              cases hx6
              have o3 := o2 q hqk
              clear o2
              obtain ⟨q0, q1⟩ := U6.out.cells
              obtain ⟨B, hB⟩ : ∃ B, ((q : Int) == 0) = B := ⟨_, rfl⟩
              have tB : (B != B) = false := by cases B <;> rfl
              rw [hB] at o3
              generalize atN 1 F (dn1 + q) = y at *
              subst hA6
              go_wp2_with fail
              refine (o3 _).out.mono ?_
              rintro e w7 ⟨rfl, hb7⟩
              go_wp2_with fail
              go_roundw
              case rel => exact ⟨q + 1, by go_num, by omega, Lib.hid (U6.out.gr hb7), Lib.hid (L6.out.gr hb7), Lib.hid (G6.out.trans hb7)⟩
              case measure => simp [intOf]; omega
            · obtain rfl : q = K := by omega
              go_wp2_with fail
              go_roundw
              case rel => exact ⟨j + 1, dn1, _, _, _, rfl, by go_num, by omega, by omega, L6, Lib.hid (by rw [HN.out, HS.out]; exact U6.out), G6⟩
              case measure => simp [intOf]; omega
      · 
        have d1 := fun w => Lib.hid (Draw_at F dn k (by omega) w)
        generalize h1 : atN 1 F (dn + k) = a1 at *
        generalize h2 : atN 1 F dn = a0 at *
        generalize h3 : atN 1 F (dn + (k + 1)) = a2 at *
        have H1 := Lib.hid h1
        have HS := Lib.hid h2
        have HN := Lib.hid h3
        clear h1 h2 h3
        go_wp2_with fail
        refine (d1 _).out.mono ?_
        rintro e w2 ⟨rfl, hb2⟩
        go_wp2_with fail
        have G2 : Gr w w2 := HG.out.trans hb2
        have N2 := Two.new w2 a2 a0
        have U2 := (HT.out.gr hb2).gr ((Gr.refl w2).al (.cells #[.int .i64 a2, .int .i64 a0] 23))
        have L2 := (HL.out.gr hb2).gr ((Gr.refl w2).al (.cells #[.int .i64 a2, .int .i64 a0] 23))
        have gY := ((Gr.refl (w2.alloc (.cells #[.int .i64 a2, .int .i64 a0] 23))).al (.cells #[.int .i64 a1] 3)).dr
        have hsz : (w2.alloc (.cells #[.int .i64 a2, .int .i64 a0] 23)).heap.size = w2.heap.size + 1 := by simp
        have hlt2 := (HT.out.gr hb2).lt
        have hLlt := ((HL.out.gr hb2)).lt
        have hle2 := G2.size
        have ba1 : B64 a1 := by rw [← H1.out]; exact at1_b F _
        have hTN : w2.heap.size ≠ w1.heap.size := by omega
        clear q0 q1
        go_region_held3 (fun w' => w'.cell? ⟨w2.heap.size, 0, none⟩ = some (.int .i64 a2) ∧ w'.cell? ⟨w2.heap.size, 1, none⟩ = some (.int .i64 a0))
          (first
            | exact N2.cells
            | exact (N2.gr gY).cells
            | exact N4.cells
            | exact ((N4.far (p := ⟨w1.heap.size, 0, none⟩) hTN _).far (p := ⟨w1.heap.size, 1, none⟩) hTN _).cells)
          ((refine step_append_omem _ (Value.int .i64) B64 (by rfl) (.tmp 51) (.tmp 53) 44 (by rfl) (fun _ => rfl) (w1.heap.size + 1) 3 i0 (.int .i64 0) 8 Try.underlying44 HI0.out HZ.out HZ1.out HZ2.out (by rfl) A' k c' (ln F dn k) (by rfl) (L2.gr gY) _ 1 1 [a1] (by rfl) (emem_oneD _ a1 ba1 3 hsz) (by unfold maxLen; omega) (by omega) (by simp; omega) ?_; intro A2 c2 w4 own4 gb4; have N4 := (N2.gr gY).gb gb4 (fun q hq => by have := hLlt q hq; omega); have U4 := (U2.gr gY).gb gb4 (fun q hq => by have := hLlt q hq; omega); have G4 : Gr w w4 := ((G2.al _).al _).dr.gb gb4 (fun q hq => by have := hLlt q hq; omega); have u40 := U4.cells.1; have u41 := U4.cells.2; have u42 := U4.frozen 0; have u43 := U4.frozen 1; have n40 := N4.cells.1; have n41 := N4.cells.2))
        rw [← H1.out, ln_more] at own4
        have U5 := Lib.hid ((U4.set0 a2).set1 a0)
        have L5 := Lib.hid ((own4.st (p := ⟨w1.heap.size, 0, none⟩) (Nat.lt_succ_self _) (.int .i64 a2)).st (p := ⟨w1.heap.size, 1, none⟩) (Nat.lt_succ_self _) (.int .i64 a0))
        have G5 := Lib.hid ((G4.st (p := ⟨w1.heap.size, 0, none⟩) hT (.int .i64 a2)).st (p := ⟨w1.heap.size, 1, none⟩) hT (.int .i64 a0))
        clear u40 u41 u42 u43 n40 n41 N4 U4 G4 own4 gb4 gY hsz hLlt U2 L2 N2 HT HL HG hb2 G2 hlt2 hle2 hTN hbl hcx hx d1
        generalize hw5 : (w4.setCell ⟨w1.heap.size, 0, none⟩ (.int .i64 a2)).setCell ⟨w1.heap.size, 1, none⟩ (.int .i64 a0) = w5 at *
        clear hw5
        generalize hK : k + 1 = K at *
        have hK1 : dn + K ≤ j + 1 := by omega
        have hK2 : K ≤ 201 := by omega
        clear hK
        obtain ⟨q0, q1⟩ := U5.out.cells
        have o1 := fun w => Lib.hid (Out_at F dn K (by omega) w)
        have o2 := fun q (hq : q < K) w => Lib.hid (Turn_at F dn K q (by omega) w)
        simp only [HN.out, HS.out] at o1 o2
        have t1 : ((K : Int) != (K : Int)) = false := by simp
        go_wp2_with fail
        refine (o1 _).out.mono ?_
        rintro e w6 ⟨rfl, hb6⟩
        have U6 := Lib.hid (U5.out.gr hb6)
        have L6 := Lib.hid (L5.out.gr hb6)
        have G6 := Lib.hid (G5.out.trans hb6)
        clear U5 L5 G5 hb6 o1 q0 q1
        go_wp2_with fail
        go_loopw [85] (fun i wr => ∃ q : Nat, i = .int .i64 (q : Int) ∧ q ≤ K ∧ Hid (Two wr w1.heap.size a2 a0) ∧ Hid (IOwn (w1.heap.size + 1) wr A2 K c2 (ln F dn K)) ∧ Hid (Gr w wr)) (fun i _ => K - (intOf i).toNat)
        case atStart => exact ⟨0, rfl, Nat.zero_le _, U6, L6, G6⟩
        case round =>
          clear U6 L6 G6
          obtain ⟨q, rfl, hq, U6, L6, G6⟩ := hrel
          by_cases hqk : q < K
          · obtain ⟨b6, off6, x, hA6, hbl6, hx6, hxb6, hc6⟩ := L6.out.mem.at_ hqk
            rw [ln_get hqk] at hx6
            cases hx6
            have o3 := o2 q hqk
            clear o2
            obtain ⟨q0, q1⟩ := U6.out.cells
            obtain ⟨B, hB⟩ : ∃ B, ((q : Int) == 0) = B := ⟨_, rfl⟩
            have tB : (B != B) = false := by cases B <;> rfl
            rw [hB] at o3
            generalize atN 1 F (dn + q) = y at *
            subst hA6
            go_wp2_with fail
            refine (o3 _).out.mono ?_
            rintro e w7 ⟨rfl, hb7⟩
            go_wp2_with fail
            go_roundw
            case rel => exact ⟨q + 1, by go_num, by omega, Lib.hid (U6.out.gr hb7), Lib.hid (L6.out.gr hb7), Lib.hid (G6.out.trans hb7)⟩
            case measure => simp [intOf]; omega
          · obtain rfl : q = K := by omega
            go_wp2_with fail
            go_roundw
            case rel => exact ⟨j + 1, dn, _, _, _, rfl, by go_num, by omega, by omega, L6, Lib.hid (by rw [HN.out, HS.out]; exact U6.out), G6⟩
            case measure => simp [intOf]; omega
    · obtain rfl : j = m := by omega
      go_wp2_with fail
      refine (alive6_ok _).mono ?_
      rintro e w5 ⟨rfl, hb5⟩
      go_wp2_with fail
      go_ret
      exact ⟨rfl, HG.out.trans hb5⟩
set_option maxHeartbeats 4000000 in
set_option maxRecDepth 100000 in
theorem turns_none (w : World) (from_ : Int) (hf : B64 from_) (A : Option Addr) (c : Nat) :
    Calls Try.prog 4 #[.int .i64 from_, .slice A 0 c] w fun e w' => e = .returned (.bool true) ∧ Gr w w' := by
  obtain ⟨F, hF⟩ : ∃ F, wd 1 from_ = F := ⟨_, rfl⟩
  have k1 := fun w => Lib.hid (Wrap_is (k := 1) hF (by omega) hf w)
  have hc1 : (0 : Int) ≤ (c : Int) := by omega
  clear hF
  obtain ⟨X, hX⟩ : ∃ X, (if c = 0 then A else A.map fun x => x.add 0) = X := ⟨_, rfl⟩
  go_enter Try.func4, Try.ntmps4
  go_wp2_with fail
  refine (k1 _).out.mono ?_
  rintro e w1 ⟨rfl, hb1⟩
  go_wp2_with fail
  all_goals
    go_loopw [37] (fun i wr => i = .int .i64 0 ∧ Hid (Gr w wr)) (fun i _ => 0)
    case atStart => exact ⟨rfl, Lib.hid (hb1.al _)⟩
    case round =>
      obtain ⟨rfl, HG⟩ := hrel
      go_wp2_with fail
      refine (alive6_ok _).mono ?_
      rintro e w5 ⟨rfl, hb5⟩
      go_wp2_with fail
      go_ret
      exact ⟨rfl, HG.out.trans hb5⟩
theorem SpinTurns_walk (w : World) (from_ : Int) (hf : B64 from_) (A : Option Addr) (n c : Nat) (l : List Bool) (hc : n ≤ c) (hn : n ≤ 9223372036854775807) (hm : BMem w A n l) :
    Calls Try.prog 4 #[.int .i64 from_, .slice A n c] w fun e w' => e = .returned (.bool true) ∧ Gr w w' := by
  by_cases h0 : n = 0
  · subst h0
    exact turns_none w from_ hf A c
  · obtain ⟨b, off, rfl, _⟩ := hm.2.2 (by omega)
    by_cases h : 200 < n
    · exact turns_run w from_ hf b off n c l (by omega) hc hn hm 200 (.inl ⟨h, rfl⟩)
    · exact turns_run w from_ hf b off n c l (by omega) hc hn hm n (.inr ⟨by omega, rfl⟩)
set_option maxRecDepth 100000 in
theorem SpinTurns_lifted (os : Os) (started : os.Started) (H : Type) (enc : TypeId × Value → H) :
    ReturnsInHanded {} Try.checked os 4 .any (Rows.spinTurnsSpec.pre6 enc Try.prog Try.f4 Rows.spinTurnsRow.domain false) (Rows.spinTurnsSpec.post enc Try.prog Try.f4 false true false false) := by
  refine returnsInHanded_of_change (C := Try.checked) own started (by kernel_rfl) Try.func4
    (ChangeSpec.witness6 (enc := enc) (C := Try.checked) false ⟨#[], #[.int .i64 0, .slice none 0 0], []⟩ 8 (by kernel_rfl) (by kernel_rfl) (by kernel_rfl) (by kernel_rfl)) ?_
  intro W base args ds gs before hval0 hW hcnd _
  have hval : ∀ (j : Nat) t v, Try.f4.params[j]? = some t → args[j]? = some v → Value.okWide Try.prog W .any base t v := hval0
  have hW' := hW
  obtain ⟨p, q, hA0, hV, rfl, hfz, hnd⟩ := hW
  have hA : DataW.TrodAll enc Try.prog W 0 (fun _ => true) true Try.f4.params.toList args.toList ds p := hA0
  rw [Try.params4] at hA hval
  have hK := hA
  obtain ⟨v0, vs0, d0, ds0, p0, q0, hargs, rfl, hp, h0, r0⟩ := trodAll_cons hA
  obtain ⟨v1, vs1, d1, ds1, p1, q1, rfl, rfl, rfl, h1, r1⟩ := trodAll_cons r0
  obtain ⟨rfl, rfl, rfl⟩ := trodAll_nil r1
  obtain rfl : args = #[v0, v1] := by cases args; simp_all
  obtain ⟨rfl, rfl⟩ := trodVars_none hV
  obtain ⟨a0, rfl, rfl, rfl, w0⟩ := open_int Try.underlying3 (hval 0 3 v0 rfl rfl) h0
  obtain ⟨A1, n1, c1, l1, rfl, hc1, hn1, hm1⟩ := open_bools (hval 1 42 v1 rfl rfl) h1
  clear hA0 hval0
  refine (SpinTurns_walk W a0 (wfb w0) A1 n1 c1 l1 hc1 hn1 hm1).mono fun e W' ⟨he, hg⟩ => ?_
  subst he
  exact ⟨_, rfl, post_below (pa := p) (pv := []) hW' (fun _ _ _ => (trodAll_cons_mk (shut_bool Try.underlying4 _) trodAll_mk0))
    (fun sp hs => trodAll_stays laidOut hg sp (by kernel_rfl) hK (fun x hx => hW'.lt x (List.mem_append_left _ hx)) (fun x hx => hs x (List.mem_append_left _ hx))) (fun _ _ => rfl) rfl
    hg (ok_one (by kernel_rfl) rfl (okWide_bool_mk Try.underlying4 _))⟩

theorem SpinTurns_over : Rows.spinTurnsRow.holds Try.pinned (OpenSpec.ofChange Rows.spinTurnsSpec) :=
  OpenClaim.holds_of_wide 4 Try.f4 rfl rfl rfl rfl rfl rfl rfl ⟨rfl, rfl, rfl, rfl, rfl⟩ rfl rfl rfl rfl rfl (by kernel_rfl) Try.func4 (by kernel_rfl)
    (of_decide_eq_true (by kernel_rfl)) (by unfold Func.isWrapper; first | (rw [if_pos (by decide +kernel)]; kernel_rfl) | (rw [if_neg (by decide +kernel)]; exact ⟨rfl, rfl⟩))
    (fun os started H enc _ => SpinTurns_lifted os started H enc)

/-- The statement. -/
theorem SpinTurns_holds : Rows.SpinTurnsSaid :=
  SpinTurns_over
#print axioms SpinTurns_holds
end Go.Proofs.Ytibbndoohpfbmaa
