/-
  ParkOnce, for every input: whatever comes, a goroutine waits just if it parked once more than it was told; it has a permit just if it was told once more than it parked; no other is touched. No condition.
-/
import Derived.Test.YtgloccbcbgpneaaParkTold
import Derived.Test.YtgloccbcbgpneaaPairs
import Derived.Test.YtgloccbcbgpneaaEnds
namespace Go.Proofs.Ytgloccbcbgpneaa
open Go.ChangeShapes Go.WideShapes Go.ChangeAt Go.RowKit P11
set_option maxRecDepth 100000
set_option linter.unusedVariables false

theorem one_more {p : Nat} (h : p < 8) : ∃ N : Nat, wrap64 (1 + (p : Int)) = (N : Int) ∧ 0 < N ∧ N ≤ 8 := ⟨p + 1, by unfold wrap64; omega, by omega, by omega⟩
set_option maxHeartbeats 8000000 in
theorem ParkOnce_walk (w : World) (a : Int) (ha : B64 a) (A0 : Option Addr) (n0 c0 : Nat) (l0 : List (Int × Int)) (hc : n0 ≤ c0) (hn : n0 ≤ 9223372036854775807) (hm0 : PMem w A0 n0 l0) :
    Calls Try.prog 4 #[.int .i64 a, .slice A0 n0 c0] w fun e w' => e = .returned (.bool true) ∧ Gr w w' := by
  have CAL := Lib.hid alive_ok
  have HI := Lib.hid hm0
  obtain ⟨M, hM⟩ : ∃ M, (min (n0 : Int) 100).toNat = M := ⟨_, rfl⟩
  have hMn : M ≤ n0 := by omega
  have hM100 : M ≤ 100 := by omega
  have hi : (if (100 : Int) < (n0 : Int) then 100 else (n0 : Int)) = (M : Int) := by split <;> omega
  have hM0 : (0 : Int) ≤ (M : Int) := by omega
  have hM1 : (M : Int) ≤ (c0 : Int) := by omega
  obtain ⟨ta, ua, pa, f1, f2, f3, hp⟩ := mods a 8 (by decide) (by decide)
  have f1' : a.tmod 8 = ta := f1
  have f2' : wrap64 (ta + 8) = ua := f2
  have f3' : ua.tmod 8 = (pa : Int) := f3
  obtain ⟨N, f4, hN0, hN8⟩ := one_more hp
  obtain ⟨i0, hi0, hz0, hz1, hz2⟩ := info_parts infoGor
  have mk1 := fun w => run_makeN (P := Try.prog) 22 40 i0 _ Try.underlying22 hi0 hz0 N (by rw [hz2]; omega) (by omega) w
  have hca : (Value.agg #[.int .i64 0, .bool false]).cells = #[.int .i64 0, .bool false] := by simp [Value.cells]
  have hcb : (Value.int .i64 0).cells = #[.int .i64 0] := by simp [Value.cells]
  rw [hz1, hca] at mk1
  obtain ⟨j0, hj0, gz0, gz1, gz2⟩ := info_parts infoInt
  have mk2 := fun w => run_makeN (P := Try.prog) 27 3 j0 _ Try.underlying27 hj0 gz0 N (by rw [gz2]; omega) (by omega) w
  rw [gz1, Nat.mul_one, hcb] at mk2
  have g0 := ((Gr.refl w).al (.cells (madeCells #[.int .i64 0, .bool false] (N * 2)) 40)).al (.cells (madeCells #[.int .i64 0] N) 3)
  have GM0 := Lib.hid ((gors_new w N).gr ((Gr.refl _).al (.cells (madeCells #[.int .i64 0] N) 3)))
  have TB0 := TB.new (w.alloc (.cells (madeCells #[.int .i64 0, .bool false] (N * 2)) 40)) N
  simp only [World.size_alloc] at TB0
  have HTB0 := Lib.hid TB0
  have G0 := Lib.hid g0
  obtain ⟨V1, hV1⟩ : ∃ V, madeCells #[.int .i64 0, .bool false] (N * 2) = V := ⟨_, rfl⟩
  obtain ⟨V2, hV2⟩ : ∃ V, madeCells #[.int .i64 0] N = V := ⟨_, rfl⟩
  have mk1' : ∀ w, (Instr.makeSlice 22 (.int .i64 (N : Int)) (.int .i64 (N : Int))).run Try.prog w = .ok (.slice (some ⟨w.heap.size, 0, none⟩) N N) (w.alloc (.cells V1 40)) := fun w => by rw [← hV1]; exact mk1 w
  have mk2' : ∀ w, (Instr.makeSlice 27 (.int .i64 (N : Int)) (.int .i64 (N : Int))).run Try.prog w = .ok (.slice (some ⟨w.heap.size, 0, none⟩) N N) (w.alloc (.cells V2 3)) := fun w => by rw [← hV2]; exact mk2 w
  have HV1 := Lib.hid hV1
  have HV2 := Lib.hid hV2
  rw [hV1, hV2] at GM0 HTB0 G0
  clear hm0 hM TB0 g0 mk1 mk2 hi0 hz0 hz1 hz2 hj0 gz0 gz1 gz2 hV1 hV2 f1 f2 f3 hp hca hcb
  go_enter Try.func4, Try.ntmps4
  go_wp2_with fail
  simp only [f2', f4]
  clear f1' f2' f3' f4 mk1' mk2'
  go_loopw [5, 29] (fun V5 i wr => ∃ (k m : Nat) (B : Option Addr) (T : List Int), k ≤ M ∧ i = .int .i64 (k : Int) ∧ V5 = .slice B N m ∧
    Hid (Few T) ∧ Hid (T.length = N) ∧ Hid (GMem wr B N (T.map gOf)) ∧ Hid (∀ b, B.map (·.block) = some b → b ≠ w.heap.size + 1) ∧ Hid (TB wr (w.heap.size + 1) T) ∧ Hid (Gr w wr)) (fun _ i _ => M - (intOf i).toNat)
  case atStart =>
    exact ⟨0, N, _, List.replicate N 0, Nat.zero_le _, rfl, rfl, Lib.hid ⟨by rw [List.length_replicate]; exact hN8, fun t ht => by rw [List.mem_replicate] at ht; exact .inr (.inl ht.2)⟩, Lib.hid List.length_replicate, GM0, Lib.hid (fun b hb => by cases hb; exact Nat.ne_of_lt (Nat.lt_succ_self _)), HTB0, G0⟩
  case round =>
    clear GM0 G0 HTB0
    obtain ⟨k, m, B, T, hk, rfl, rfl, HF, HTL, HGM, HOFF, HTB, HG⟩ := hrel
    by_cases hlt : k < M
    · obtain ⟨b, off, x0, x1, rfl, hbl, hx, i0, i1, y0, y1⟩ := (HI.out.gr HG.out).at_ (show k < n0 by omega)
      obtain ⟨t1, u1, κ, e1, e2, e3, hκ⟩ := mods x1 N hN0 (by omega)
      obtain ⟨t3, h3⟩ : ∃ t, x0.tmod 2 = t := ⟨_, rfl⟩
      obtain ⟨b0, hb0⟩ : ∃ b0, (t3 == 0) = b0 := ⟨_, rfl⟩
      have k0 : (0 : Int) ≤ (k : Int) := by omega
      have k1 : (k : Int) < (M : Int) := by omega
      have zN : ¬ (N : Int) = 0 := by omega
      have z2 : ¬ (2 : Int) = 0 := by decide
      have κ0 : (0 : Int) ≤ (κ : Int) := by omega
      have κN : (κ : Int) < (N : Int) := by omega
      obtain ⟨t, hT⟩ : ∃ t, T[κ]? = some t := ⟨_, List.getElem?_eq_getElem (by rw [HTL.out]; exact hκ)⟩
      have ht3 := HF.out.2 t (List.mem_of_getElem? hT)
      have G1 := Lib.hid ((Gr.refl wr).al (.cells #[.int .i64 x0, .int .i64 x1] 38))
      have HM1 := Lib.hid (HGM.out.gr G1.out)
      have HTB1 := Lib.hid (HTB.out.gr G1.out)
      have X0 := Lib.hid (Blk.new wr #[.int .i64 x0, .int .i64 x1] 38)
      have hP := told_park HF.out hT
      have hR := told_ready HF.out hT
      have HT := Lib.hid hT
      clear hx i0 i1 hT hbl
      cases b0 with
      | true =>
        by_cases hneg : t < 0
        · rw [if_pos hneg] at hP
          have p1 := fun w hm => Lib.hid (Park_at (A := B) (c := m) (n := N) (N := 0) (by omega) hP rfl w hm)
          have hge : decide (0 ≤ t) = false := by simpa using hneg
          clear hP hR
          go_wp2_with fail
          with_reducible refine (p1 _ HM1.out).out.mono ?_
          rintro e w2 ⟨C, d, rfl, hC, hd, -, g2⟩
          have G2 := Lib.hid (G1.out.trans g2)
          obtain ⟨q0, -⟩ := (HTB1.out.gr g2).at_ HT.out
          obtain ⟨q1, -⟩ := (X0.out.gr g2).at_ (k := 0) (v := .int .i64 x0) rfl
          clear hC g2
          go_wp2_with fail
          go_roundw
          case rel => exact ⟨k + 1, m, B, T, by omega, by go_num, rfl, HF, HTL, Lib.hid (HGM.out.gr G2.out), HOFF, Lib.hid (HTB.out.gr G2.out), Lib.hid (HG.out.trans G2.out)⟩
          case measure => simp [intOf]; omega
        · rw [if_neg hneg] at hP
          obtain ⟨t', ht'⟩ : ∃ t', t - 1 = t' := ⟨_, rfl⟩
          have ht3' : t' = -1 ∨ t' = 0 ∨ t' = 1 := by omega
          have hwt : wrap64 (t - 1) = t' := by unfold wrap64; omega
          rw [ht'] at hP
          obtain ⟨T', hT'⟩ : ∃ T', T.set κ t' = T' := ⟨_, rfl⟩
          have HF' := Lib.hid (HF.out.set κ ht3')
          have HTL' := Lib.hid (show (T.set κ t').length = N by rw [List.length_set]; exact HTL.out)
          rw [hT'] at hP HF' HTL'
          have HTT := Lib.hid hT'
          have p1 := fun w hm => Lib.hid (Park_at (A := B) (c := m) (n := N) (N := N) (by omega) hP (by rw [List.length_map]; exact HTL'.out) w hm)
          have hge : decide (0 ≤ t) = true := by simpa using hneg
          clear hP hR ht' hT' ht3 ht3'
          go_wp2_with fail
          with_reducible refine (p1 _ HM1.out).out.mono ?_
          rintro e w2 ⟨C, d, rfl, hC, hd, hlate, g2⟩
          have G2 := Lib.hid (G1.out.trans g2)
          obtain ⟨q0, z0⟩ := (HTB1.out.gr g2).at_ HT.out
          have T2 := Lib.hid (HTT.out ▸ (HTB1.out.gr g2).put κ t')
          have hoff : ∀ b, C.map (·.block) = some b → b ≠ w.heap.size + 1 := fun b hb => by
            have h1 := hlate b hb
            have h2 := HTB1.out.lt
            omega
          have M2 := Lib.hid (hC.st (p := ⟨w.heap.size + 1, κ, none⟩) hoff (.int .i64 t'))
          have HOFF' := Lib.hid hoff
          have GW := Lib.hid ((HG.out.trans G2.out).st (p := ⟨w.heap.size + 1, κ, none⟩) (Nat.le_succ _) (.int .i64 t'))
          clear hC g2 hlate hoff p1 G2 HM1 HTB1 X0 HGM HTB G1 HT HTT
          rename World => wo
          go_wp2_with fail
          generalize wo.setCell ⟨w.heap.size + 1, κ, none⟩ (.int .i64 t') = W at *
          clear e1 e2 e3 h3 hwt y0 y1 q0 z0 hi hge
          go_loopw [116] (fun i w3 => ∃ j : Nat, j ≤ N ∧ i = .int .i64 (j : Int) ∧ Hid (Gr W w3)) (fun i _ => N - (intOf i).toNat)
          case atStart => exact ⟨0, Nat.zero_le _, rfl, Lib.hid (Gr.refl _)⟩
          case round =>
            obtain ⟨j, hj, rfl, HW⟩ := hrel
            by_cases hjn : j < N
            · obtain ⟨tj, hTj⟩ : ∃ t, T'[j]? = some t := ⟨_, List.getElem?_eq_getElem (by rw [HTL'.out]; exact hjn)⟩
              obtain ⟨b9, off9, x, rfl, hb9, hx9, hi9, v0, v1⟩ := (M2.out.gr HW.out).at_ hjn
              obtain ⟨q9, -⟩ := (T2.out.gr HW.out).at_ hTj
              have hl9 : w.heap.size + 1 < wr.heap.size := (T2.out.gr HW.out).lt
              have hne9 : w.heap.size + 1 ≠ wr.heap.size := Nat.ne_of_lt hl9
              have hne8 : b9 ≠ wr.heap.size := Nat.ne_of_lt hb9
              have j0 : (0 : Int) ≤ (j : Int) := by omega
              have j1 : (j : Int) < (N : Int) := by omega
              have hxg : gOf tj = x := by rw [map_get hTj] at hx9; exact Option.some.inj hx9
              have htj := HF'.out.2 tj (List.mem_of_getElem? hTj)
              clear hTj hx9
              rcases htj with rfl | rfl | rfl
              · obtain rfl : (1, false) = x := hxg
                dsimp only at v0 v1 hi9
                go_wp2_with fail
                go_quiet (fail)
                go_wp2_with fail
                go_roundw
                case rel => exact ⟨j + 1, by omega, by go_num, Lib.hid ((HW.out.al _).drN _)⟩
                case measure => simp [intOf]; omega
              · obtain rfl : (0, false) = x := hxg
                dsimp only at v0 v1 hi9
                go_wp2_with fail
                go_quiet (fail)
                go_wp2_with fail
                go_roundw
                case rel => exact ⟨j + 1, by omega, by go_num, Lib.hid ((HW.out.al _).drN _)⟩
                case measure => simp [intOf]; omega
              · obtain rfl : (0, true) = x := hxg
                dsimp only at v0 v1 hi9
                go_wp2_with fail
                go_quiet (fail)
                go_wp2_with fail
                go_roundw
                case rel => exact ⟨j + 1, by omega, by go_num, Lib.hid ((HW.out.al _).drN _)⟩
                case measure => simp [intOf]; omega
            · obtain rfl : j = N := by omega
              go_wp2_with fail
              go_roundw
              case rel => exact ⟨k + 1, d, C, T', by omega, by go_num, rfl, HF', HTL', Lib.hid (M2.out.gr HW.out), HOFF', Lib.hid (T2.out.gr HW.out), Lib.hid (GW.out.trans HW.out)⟩
              case measure => simp [intOf]; omega
      | false =>
        have hb1 : (t3 != 0) = true := by simp [bne, hb0]
        by_cases hpos : 0 < t
        · rw [if_pos hpos] at hR
          have p1 := fun w hm => Lib.hid (Ready_at (A := B) (c := m) (n := N) (N := 0) (by omega) hR rfl w hm)
          have hge : decide (t ≤ 0) = false := by simpa using hpos
          clear hP hR
          go_wp2_with fail
          with_reducible refine (p1 _ HM1.out).out.mono ?_
          rintro e w2 ⟨C, d, rfl, hC, hd, -, g2⟩
          have G2 := Lib.hid (G1.out.trans g2)
          obtain ⟨q0, -⟩ := (HTB1.out.gr g2).at_ HT.out
          obtain ⟨q1, -⟩ := (X0.out.gr g2).at_ (k := 0) (v := .int .i64 x0) rfl
          clear hC g2
          go_wp2_with fail
          go_roundw
          case rel => exact ⟨k + 1, m, B, T, by omega, by go_num, rfl, HF, HTL, Lib.hid (HGM.out.gr G2.out), HOFF, Lib.hid (HTB.out.gr G2.out), Lib.hid (HG.out.trans G2.out)⟩
          case measure => simp [intOf]; omega
        · rw [if_neg hpos] at hR
          obtain ⟨t', ht'⟩ : ∃ t', t + 1 = t' := ⟨_, rfl⟩
          have ht3' : t' = -1 ∨ t' = 0 ∨ t' = 1 := by omega
          have hwt : wrap64 (t + 1) = t' := by unfold wrap64; omega
          rw [ht'] at hR
          obtain ⟨T', hT'⟩ : ∃ T', T.set κ t' = T' := ⟨_, rfl⟩
          have HF' := Lib.hid (HF.out.set κ ht3')
          have HTL' := Lib.hid (show (T.set κ t').length = N by rw [List.length_set]; exact HTL.out)
          rw [hT'] at hR HF' HTL'
          have HTT := Lib.hid hT'
          have p1 := fun w hm => Lib.hid (Ready_at (A := B) (c := m) (n := N) (N := N) (by omega) hR (by rw [List.length_map]; exact HTL'.out) w hm)
          have hge : decide (t ≤ 0) = true := by simpa using hpos
          clear hP hR ht' hT' ht3 ht3'
          go_wp2_with fail
          with_reducible refine (p1 _ HM1.out).out.mono ?_
          rintro e w2 ⟨C, d, rfl, hC, hd, hlate, g2⟩
          have G2 := Lib.hid (G1.out.trans g2)
          obtain ⟨q0, z0⟩ := (HTB1.out.gr g2).at_ HT.out
          have T2 := Lib.hid (HTT.out ▸ (HTB1.out.gr g2).put κ t')
          have hoff : ∀ b, C.map (·.block) = some b → b ≠ w.heap.size + 1 := fun b hb => by
            have h1 := hlate b hb
            have h2 := HTB1.out.lt
            omega
          have M2 := Lib.hid (hC.st (p := ⟨w.heap.size + 1, κ, none⟩) hoff (.int .i64 t'))
          have HOFF' := Lib.hid hoff
          have GW := Lib.hid ((HG.out.trans G2.out).st (p := ⟨w.heap.size + 1, κ, none⟩) (Nat.le_succ _) (.int .i64 t'))
          clear hC g2 hlate hoff p1 G2 HM1 HTB1 X0 HGM HTB G1 HT HTT
          rename World => wo
          go_wp2_with fail
          generalize wo.setCell ⟨w.heap.size + 1, κ, none⟩ (.int .i64 t') = W at *
          clear e1 e2 e3 h3 hwt y0 y1 q0 z0 hi hge
          go_loopw [116] (fun i w3 => ∃ j : Nat, j ≤ N ∧ i = .int .i64 (j : Int) ∧ Hid (Gr W w3)) (fun i _ => N - (intOf i).toNat)
          case atStart => exact ⟨0, Nat.zero_le _, rfl, Lib.hid (Gr.refl _)⟩
          case round =>
            obtain ⟨j, hj, rfl, HW⟩ := hrel
            by_cases hjn : j < N
            · obtain ⟨tj, hTj⟩ : ∃ t, T'[j]? = some t := ⟨_, List.getElem?_eq_getElem (by rw [HTL'.out]; exact hjn)⟩
              obtain ⟨b9, off9, x, rfl, hb9, hx9, hi9, v0, v1⟩ := (M2.out.gr HW.out).at_ hjn
              obtain ⟨q9, -⟩ := (T2.out.gr HW.out).at_ hTj
              have hl9 : w.heap.size + 1 < wr.heap.size := (T2.out.gr HW.out).lt
              have hne9 : w.heap.size + 1 ≠ wr.heap.size := Nat.ne_of_lt hl9
              have hne8 : b9 ≠ wr.heap.size := Nat.ne_of_lt hb9
              have j0 : (0 : Int) ≤ (j : Int) := by omega
              have j1 : (j : Int) < (N : Int) := by omega
              have hxg : gOf tj = x := by rw [map_get hTj] at hx9; exact Option.some.inj hx9
              have htj := HF'.out.2 tj (List.mem_of_getElem? hTj)
              clear hTj hx9
              rcases htj with rfl | rfl | rfl
              · obtain rfl : (1, false) = x := hxg
                dsimp only at v0 v1 hi9
                go_wp2_with fail
                go_quiet (fail)
                go_wp2_with fail
                go_roundw
                case rel => exact ⟨j + 1, by omega, by go_num, Lib.hid ((HW.out.al _).drN _)⟩
                case measure => simp [intOf]; omega
              · obtain rfl : (0, false) = x := hxg
                dsimp only at v0 v1 hi9
                go_wp2_with fail
                go_quiet (fail)
                go_wp2_with fail
                go_roundw
                case rel => exact ⟨j + 1, by omega, by go_num, Lib.hid ((HW.out.al _).drN _)⟩
                case measure => simp [intOf]; omega
              · obtain rfl : (0, true) = x := hxg
                dsimp only at v0 v1 hi9
                go_wp2_with fail
                go_quiet (fail)
                go_wp2_with fail
                go_roundw
                case rel => exact ⟨j + 1, by omega, by go_num, Lib.hid ((HW.out.al _).drN _)⟩
                case measure => simp [intOf]; omega
            · obtain rfl : j = N := by omega
              go_wp2_with fail
              go_roundw
              case rel => exact ⟨k + 1, d, C, T', by omega, by go_num, rfl, HF', HTL', Lib.hid (M2.out.gr HW.out), HOFF', Lib.hid (T2.out.gr HW.out), Lib.hid (GW.out.trans HW.out)⟩
              case measure => simp [intOf]; omega
    · obtain rfl : k = M := by omega
      go_wp2_with fail
      with_reducible refine (CAL.out _).mono ?_
      rintro e w2 ⟨rfl, g2⟩
      have G2 := Lib.hid (HG.out.trans g2)
      clear g2
      go_wp2_with fail
      go_ret
      exact ⟨rfl, G2.out⟩

set_option maxRecDepth 100000 in
theorem ParkOnce_lifted (os : Os) (started : os.Started) (H : Type) (enc : TypeId × Value → H) :
    ReturnsInHanded {} Try.checked os 4 .any (Rows.parkOnceSpec.pre6 enc Try.prog Try.f4 Rows.parkOnceRow.domain false) (Rows.parkOnceSpec.post enc Try.prog Try.f4 false true false false) := by
  refine returnsInHanded_of_change (C := Try.checked) own started (by kernel_rfl) Try.func4
    (ChangeSpec.witness6 (enc := enc) (C := Try.checked) false ⟨#[], #[.int .i64 0, .slice none 0 0], []⟩ 8 (by kernel_rfl) (by kernel_rfl) (by kernel_rfl) (by kernel_rfl)) ?_
  intro W base args ds gs before hval0 hW hcnd _
  have hval : ∀ (j : Nat) t v, Try.f4.params[j]? = some t → args[j]? = some v → Value.okWide Try.prog W .any base t v := hval0
  have hW' := hW
  obtain ⟨p, q, hA0, hV, rfl, hfz, hnd⟩ := hW
  have hA : DataW.TrodAll enc Try.prog W 0 (fun _ => true) true Try.f4.params.toList args.toList ds p := hA0
  rw [Try.params4] at hA hval
  have hK := hA
  obtain ⟨v0, vs0, d0, ds0, p0, q0, hargs, rfl, hp, h0, r0⟩ := trodAll_cons hA
  obtain ⟨v1, vs1, d1, ds1, p1, q1, rfl, rfl, rfl, h1, r1⟩ := trodAll_cons r0
  obtain ⟨rfl, rfl, rfl⟩ := trodAll_nil r1
  obtain rfl : args = #[v0, v1] := by cases args; simp_all
  obtain ⟨rfl, rfl⟩ := trodVars_none hV
  obtain ⟨a0, rfl, rfl, rfl, w0⟩ := open_int Try.underlying3 (hval 0 3 v0 rfl rfl) h0
  obtain ⟨A1, n1, c1, l1, rfl, hc1, hn1, hm1⟩ := open_pairs (hval 1 37 v1 rfl rfl) h1
  clear hA0 hval0
  refine (ParkOnce_walk W a0 (wfb w0) A1 n1 c1 l1 hc1 hn1 hm1).mono fun e W' ⟨he, hg⟩ => ?_
  subst he
  exact ⟨_, rfl, post_below (pa := p) (pv := []) hW' (fun _ _ _ => (trodAll_cons_mk (shut_bool Try.underlying4 _) trodAll_mk0))
    (fun sp hs => trodAll_stays laidOut hg sp (by kernel_rfl) hK (fun x hx => hW'.lt x (List.mem_append_left _ hx)) (fun x hx => hs x (List.mem_append_left _ hx))) (fun _ _ => rfl) rfl
    hg (ok_one (by kernel_rfl) rfl (okWide_bool_mk Try.underlying4 _))⟩

theorem ParkOnce_over : Rows.parkOnceRow.holds Try.pinned (OpenSpec.ofChange Rows.parkOnceSpec) :=
  OpenClaim.holds_of_wide 4 Try.f4 rfl rfl rfl rfl rfl rfl rfl ⟨rfl, rfl, rfl, rfl, rfl⟩ rfl rfl rfl rfl rfl (by kernel_rfl) Try.func4 (by kernel_rfl)
    (of_decide_eq_true (by kernel_rfl)) (by unfold Func.isWrapper; first | (rw [if_pos (by decide +kernel)]; kernel_rfl) | (rw [if_neg (by decide +kernel)]; exact ⟨rfl, rfl⟩))
    (fun os started H enc _ => ParkOnce_lifted os started H enc)

/-- The statement. -/
theorem ParkOnce_holds : Rows.ParkOnceSaid :=
  ParkOnce_over
#print axioms ParkOnce_holds
end Go.Proofs.Ytgloccbcbgpneaa
