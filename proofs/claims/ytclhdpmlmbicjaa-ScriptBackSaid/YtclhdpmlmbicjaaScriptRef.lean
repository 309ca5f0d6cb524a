/-
  The reference's Time and Share; few, alive.
-/
import Derived.Test.YtclhdpmlmbicjaaScriptFn
import Derived.WalkMore
namespace Go.Proofs.Ytclhdpmlmbicjaa
open Go.ChangeShapes Go.WideShapes Go.ChangeAt Go.RowKit Go.Shelf
set_option linter.unusedVariables false
set_option linter.unusedSimpArgs false
namespace P13

theorem his_eq (who v : Int) : his who v = ((rd v).1 == 0 && (rd v).2 == who) := by
  unfold his
  rw [Bool.eq_iff_iff]
  simp [Prod.ext_iff]
theorem run_kind (k n : Int) (w : World) : (Instr.field 23 (.agg #[.int .i64 k, .int .i64 n]) 0).run Try.prog w = .ok (.int .i64 k) w := by
  unfold Instr.field
  simp [go_sem, run_underlying Try.underlying23, asAgg, part]
theorem run_num (k n : Int) (w : World) : (Instr.field 23 (.agg #[.int .i64 k, .int .i64 n]) 1).run Try.prog w = .ok (.int .i64 n) w := by
  unfold Instr.field
  simp [go_sem, run_underlying Try.underlying23, asAgg, part]
set_option maxHeartbeats 2000000 in
theorem rShare_is {w : World} {A : Option Addr} {n c : Nat} {L : List Int} (hm : IMem w A n L) (hn : n ≤ 9223372036854775807) (who : Int) :
    Calls Try.prog 14 #[.slice A n c, .int .i64 who] w fun e w' => e = .returned (.int .i64 ((cnt who L : Nat) : Int)) ∧ Gr w w' := by
  have hlen := hm.1
  have HM := Lib.hid hm
  clear hm
  go_enter Try.func14, Try.ntmps14
  go_wp2_with fail
  go_loopw [5, 10] (fun t i wr => ∃ k : Nat, k ≤ n ∧ i = .int .i64 (k : Int) ∧ t = .int .i64 ((cnt who (L.take k) : Nat) : Int) ∧ Hid (Gr w wr)) (fun _ i _ => n - (intOf i).toNat)
  case atStart => exact ⟨0, Nat.zero_le _, rfl, rfl, Lib.hid (Gr.refl _)⟩
  case round =>
    obtain ⟨k, hk, rfl, rfl, HG⟩ := hrel
    by_cases hlt : k < n
    · obtain ⟨b, off, x, rfl, hbl, hx, hxb, d0⟩ := (HM.out.gr HG.out).at_ hlt
      have CR := fun W => Lib.hid (rRead_is x W)
      have hcs := cnt_snoc who (L.take k) x
      rw [← take_snoc hx, his_eq] at hcs
      have hcl := cnt_le who (L.take k)
      have hcl2 : cnt who (L.take k) ≤ k := by rw [List.length_take] at hcl; omega
      obtain ⟨C, hC⟩ : ∃ C, cnt who (L.take k) = C := ⟨_, rfl⟩
      obtain ⟨D, hD⟩ : ∃ D, cnt who (L.take (k + 1)) = D := ⟨_, rfl⟩
      rw [hC, hD] at hcs
      rw [hC] at hcl2 ⊢
      have HD := Lib.hid hD
      have k0 : (0 : Int) ≤ (k : Int) := by omega
      have k1 : (k : Int) < (n : Int) := by omega
      generalize rd x = p at *
      obtain ⟨kk, m⟩ := p
      have CR : ∀ W, Hid (Calls Try.prog 10 #[.int .i64 x] W fun e w' => e = .returned (.agg #[.int .i64 kk, .int .i64 m]) ∧ Gr W w') := CR
      have HCS := Lib.hid hcs
      have fk := fun w => run_kind kk m w
      have fn := fun w => run_num kk m w
      clear hx hcs hcl hC hD
      by_cases h0 : kk = 0
      · subst h0
        by_cases h1 : m = who
        · subst h1
          have e : (m == m) = true := by simp
          have hw5 : IntKind.i64.wrap ((C : Int) + 1) = ((C + 1 : Nat) : Int) := by rw [wrap_id (by omega) (by omega)]; omega
          go_wp2_with fail
          with_reducible refine (CR _).out.mono ?_
          rintro e w1 ⟨rfl, hb1⟩
          go_wp2_with fail
          with_reducible refine (CR _).out.mono ?_
          rintro e w2 ⟨rfl, hb2⟩
          have HG2 := Lib.hid ((HG.out.trans hb1).trans hb2)
          clear hb1 hb2 CR
          go_wp2_with fail
          go_roundw
          case rel =>
            have hcs := HCS.out
            simp at hcs
            exact ⟨k + 1, by omega, by go_num, by rw [HD.out]; congr 1; omega, HG2⟩
          case measure => simp [intOf]; omega
        · have e : (m == who) = false := beq_eq_false_iff_ne.2 h1
          go_wp2_with fail
          with_reducible refine (CR _).out.mono ?_
          rintro e w1 ⟨rfl, hb1⟩
          go_wp2_with fail
          with_reducible refine (CR _).out.mono ?_
          rintro e w2 ⟨rfl, hb2⟩
          have HG2 := Lib.hid ((HG.out.trans hb1).trans hb2)
          clear hb1 hb2 CR
          go_wp2_with fail
          go_roundw
          case rel =>
            have hcs := HCS.out
            simp [h1] at hcs
            exact ⟨k + 1, by omega, by go_num, by rw [HD.out]; congr 1; omega, HG2⟩
          case measure => simp [intOf]; omega
      · have e : (kk == 0) = false := beq_eq_false_iff_ne.2 h0
        go_wp2_with fail
        with_reducible refine (CR _).out.mono ?_
        rintro e w1 ⟨rfl, hb1⟩
        have HG2 := Lib.hid (HG.out.trans hb1)
        clear hb1 CR
        go_wp2_with fail
        go_roundw
        case rel =>
          have hcs := HCS.out
          simp [h0] at hcs
          exact ⟨k + 1, by omega, by go_num, by rw [HD.out]; congr 1; omega, HG2⟩
        case measure => simp [intOf]; omega
    · obtain rfl : k = n := by omega
      have e : L.take k = L := by rw [← hlen, List.take_length]
      rw [e]
      go_wp2_with fail
      go_ret
      exact ⟨rfl, HG.out⟩
set_option maxHeartbeats 2000000 in
/-- The reference's Time. -/
theorem rTime_is {w : World} {A : Option Addr} {n c : Nat} {L : List Int} (hm : IMem w A n L) (hn : n ≤ 9223372036854775807) {r : Int} {v : Bool} (h : (tot L ≤ 4611686018427387904 ∧ r = tot L ∧ v = true) ∨ (4611686018427387904 < tot L ∧ r = 0 ∧ v = false)) :
    Calls Try.prog 17 #[.slice A n c] w fun e w' => e = .returned (.tuple #[.int .i64 r, .bool v]) ∧ Gr w w' := by
  have hlen := hm.1
  have HM := Lib.hid hm
  have HR := Lib.hid h
  clear hm h
  go_enter Try.func17, Try.ntmps17
  go_wp2_with fail
  go_loopw [4, 10] (fun t i wr => ∃ k : Nat, k ≤ n ∧ i = .int .i64 (k : Int) ∧ t = .int .i64 (tot (L.take k)) ∧ Hid (tot (L.take k) ≤ 4611686018427387904) ∧ Hid (Gr w wr)) (fun _ i _ => n - (intOf i).toNat)
  case atStart => exact ⟨0, Nat.zero_le _, rfl, rfl, Lib.hid (show (0 : Int) ≤ _ by decide), Lib.hid (Gr.refl _)⟩
  case round =>
    obtain ⟨k, hk, rfl, rfl, HT, HG⟩ := hrel
    by_cases hlt : k < n
    · obtain ⟨b, off, x, rfl, hbl, hx, hxb, d0⟩ := (HM.out.gr HG.out).at_ hlt
      have CR := fun W => Lib.hid (rRead_is x W)
      have hts := tot_snoc (L.take k) x
      rw [← take_snoc hx] at hts
      have hT := HT.out
      have hnn := tot_nonneg (L.take k)
      have hall : tot (L.take (k + 1)) ≤ tot L := by
        have := tot_append (L.take (k + 1)) (L.drop (k + 1))
        rw [List.take_append_drop] at this
        have := tot_nonneg (L.drop (k + 1))
        omega
      have hok := rd_ok x
      have h1 := tk_tick (v := x)
      have h2 := tk_step (v := x)
      obtain ⟨T, hTT⟩ : ∃ T, tot (L.take k) = T := ⟨_, rfl⟩
      obtain ⟨D, hD⟩ : ∃ D, tot (L.take (k + 1)) = D := ⟨_, rfl⟩
      rw [hTT] at hts hT hnn ⊢
      rw [hD] at hts hall
      have HD := Lib.hid hD
      have k0 : (0 : Int) ≤ (k : Int) := by omega
      have k1 : (k : Int) < (n : Int) := by omega
      generalize tk x = K at *
      generalize rd x = p at *
      obtain ⟨kk, m⟩ := p
      have CR : ∀ W, Hid (Calls Try.prog 10 #[.int .i64 x] W fun e w' => e = .returned (.agg #[.int .i64 kk, .int .i64 m]) ∧ Gr W w') := CR
      clear hx HT hTT hD
      by_cases h0 : kk = 1
      · subst h0
        have hKm : K = m := h1 rfl
        have hm : 0 < m ∧ m ≤ 4611686018427387904 := by
          rcases hok with ⟨h, _⟩ | ⟨_, h, h'⟩
          · exact absurd h (show ¬ (1 : Int) = 0 by decide)
          · exact ⟨h, h'⟩
        subst hKm
        have HTS := Lib.hid hts
        have HA := Lib.hid hall
        clear h1 h2 hok hts hall
        go_wp2_with fail
        with_reducible refine (CR _).out.mono ?_
        rintro e w1 ⟨rfl, hb1⟩
        have HG2 := Lib.hid ((HG.out.trans hb1).al (.cells #[.int .i64 1, .int .i64 K] 23))
        clear hb1 CR
        by_cases hs : K > 4611686018427387904 - T
        · have hf : tot L > 4611686018427387904 := by have := HTS.out; have := HA.out; omega
          obtain ⟨rfl, rfl⟩ : r = 0 ∧ v = false := by
            rcases HR.out with ⟨h, _⟩ | ⟨_, h⟩
            · omega
            · exact h
          clear hf
          go_wp2_with fail
          go_ret2
          exact ⟨rfl, HG2.out⟩
        · go_wp2_with fail
          go_roundw
          case rel => exact ⟨k + 1, by omega, by go_num, by rw [HD.out, HTS.out], Lib.hid (by rw [HD.out]; have := HTS.out; omega), HG2⟩
          case measure => simp [intOf]; omega
      · have e1 : (kk == 1) = false := beq_eq_false_iff_ne.2 h0
        have hK0 : K = 0 := h2 h0
        subst hK0
        have HTS := Lib.hid hts
        clear h1 h2 hok hts hall
        go_wp2_with fail
        with_reducible refine (CR _).out.mono ?_
        rintro e w1 ⟨rfl, hb1⟩
        have HG2 := Lib.hid ((HG.out.trans hb1).al (.cells #[.int .i64 kk, .int .i64 m] 23))
        clear hb1 CR
        go_wp2_with fail
        go_roundw
        case rel => exact ⟨k + 1, by omega, by go_num, by rw [HD.out, HTS.out, Int.add_zero], Lib.hid (by rw [HD.out]; have := HTS.out; omega), HG2⟩
        case measure => simp [intOf]; omega
    · obtain rfl : k = n := by omega
      have e : L.take k = L := by rw [← hlen, List.take_length]
      rw [e] at HT ⊢
      obtain ⟨rfl, rfl⟩ : r = tot L ∧ v = true := by
        rcases HR.out with ⟨_, h⟩ | ⟨h, _⟩
        · exact h
        · have := HT.out; omega
      go_wp2_with fail
      go_ret2
      exact ⟨rfl, HG.out⟩
set_option maxHeartbeats 1000000 in
theorem few_ok (A : Option Addr) (n c m : Nat) (hc : n ≤ c) (hn : n ≤ 9223372036854775807) (hmn : (200 < n ∧ m = 200) ∨ (n ≤ 200 ∧ m = n)) (w : World) :
    Calls Try.prog 5 #[.slice A n c] w fun e w' => e = .returned (.slice A m c) ∧ w' = w := by
  rcases hmn with ⟨h, rfl⟩ | ⟨h, rfl⟩
  all_goals (
    go_enter Try.func5, Try.ntmps5
    go_wp2_with fail
    go_ret
    exact ⟨rfl, rfl⟩)
set_option maxHeartbeats 1000000 in
theorem alive_ok (w : World) : Calls Try.prog 15 #[] w fun e w' => e = .returned (.bool true) ∧ Gr w w' := by
  have hm : IMem (w.alloc (.cells #[.int .i64 17, .int .i64 (-5)] 3)) (some ⟨w.heap.size, 0, none⟩) 2 [17, -5] := emem_two w 17 (-5) ⟨by decide, by decide⟩ ⟨by decide, by decide⟩ _
  have CA := fun c => Lib.hid (All_is (c := c) hm (by omega))
  have he := fun p q w => run_pick_eql p q w
  clear hm
  go_enter Try.func15, Try.ntmps15
  go_wp2_with fail
  with_reducible refine (CA _).out.mono ?_
  rintro e w1 ⟨⟨B, d, rfl, hd1, hd2, hB, _⟩, g1⟩
  have hl : [17, -5].map rd = [(0, 1), (1, 5)] := by decide +kernel
  rw [hl] at hB
  obtain ⟨b, off, x, rfl, hbl, hx, hix, hiy, p0, p1⟩ := hB.at_ (k := 0) (by omega)
  obtain ⟨b2, off2, x2, e2, hbl2, hx2, _, _, r0, r1⟩ := hB.at_ (k := 1) (by omega)
  simp only [List.getElem?_cons_zero, List.getElem?_cons_succ, Option.some.injEq] at hx hx2
  subst hx hx2
  cases e2
  simp only [Nat.zero_mul, Nat.add_zero, Nat.one_mul] at p0 p1 r0 r1
  have G1 := Lib.hid (((Gr.refl w).al (.cells #[.int .i64 17, .int .i64 (-5)] 3)).trans g1)
  clear hB g1 CA hl
  go_wp2_with fail
  go_ret
  exact ⟨rfl, G1.out⟩
end P13
end Go.Proofs.Ytclhdpmlmbicjaa
