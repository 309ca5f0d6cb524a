/-
  ScriptBack, for every input: whatever number is read, the pick may be, and what is written of it is read as it; two scripts, one behind the other, have the picks, the time and the shares of both. No condition.
-/
import Derived.Test.YtclhdpmlmbicjaaScriptRef
import Derived.Test.YtclhdpmlmbicjaaEnds
import Derived.Deep.RegionHeld3
import Derived.Deep.DeepCutAuto
namespace Go.Proofs.Ytclhdpmlmbicjaa
open Go.ChangeShapes Go.WideShapes Go.ChangeAt Go.RowKit P13
set_option linter.unusedVariables false
set_option linter.unusedSimpArgs false

theorem run_pick_neq (p : Pk) (w : World) : (binOp .neq 23 (.agg #[.int .i64 p.1, .int .i64 p.2]) (.agg #[.int .i64 p.1, .int .i64 p.2])).run Try.prog w = .ok (.bool false) w := by
  obtain ⟨a, b⟩ := p
  go_simp
theorem wrR_read {v : Int} {n e : Int} (h : WrR (rd v) n e) : n = nm (rd v) ∧ e = 0 := by
  rcases h with ⟨_, h⟩ | ⟨h, _⟩
  · exact h
  · exact absurd (rd_ok v) h
/-- How the times of two scripts and of both together hang together. -/
theorem times {a b : List Int} {s f t g u h : Int} (h1 : TimeR a s f) (h2 : TimeR b t g) (h3 : TimeR (a ++ b) u h) :
    (h = 0 ∧ f = 0 ∧ g = 0 ∧ u = s + t ∧ IntKind.i64.wrap (s + t) = s + t) ∨ (h = 10 ∧ u = 0 ∧ f = 10) ∨ (h = 10 ∧ u = 0 ∧ f = 0 ∧ g = 10) ∨ (h = 10 ∧ u = 0 ∧ f = 0 ∧ g = 0 ∧ 4611686018427387904 - t < s ∧ IntKind.i64.wrap (4611686018427387904 - t) = 4611686018427387904 - t) := by
  have ha := tot_nonneg a
  have hb := tot_nonneg b
  have hab := tot_append a b
  unfold TimeR top at h1 h2 h3
  rw [hab] at h3
  generalize tot a = x at *
  generalize tot b = y at *
  rw [IntKind.wrap_i64, IntKind.wrap_i64]
  omega
theorem wrap_kind (v : Int) : decide (0 ≤ v) = ((rd v).1 == 0) := by
  rw [Bool.eq_iff_iff, decide_eq_true_eq, beq_iff_eq]
  exact (rd_kind v).symm
section
variable {w : World} {v : Int} {A A2 : Option Addr} {n c m d : Nat} {a b : List Int} {who : Int}
set_option maxRecDepth 100000 in
set_option maxHeartbeats 8000000 in
theorem back_run (hc : n ≤ c) (hd : m ≤ d) {n0 m0 : Nat} (hn : n0 ≤ 9223372036854775807) (hm : m0 ≤ 9223372036854775807) (hn0 : n0 ≤ c) (hm0 : m0 ≤ d) (hA : IMem w A n a) (hB : IMem w A2 m b) (hmn : (200 < n0 ∧ n = 200) ∨ (n0 ≤ 200 ∧ n = n0)) (hmm : (200 < m0 ∧ m = 200) ∨ (m0 ≤ 200 ∧ m = m0)) :
    Calls Try.prog 4 #[.int .i64 v, .slice A n0 c, .slice A2 m0 d, .int .i64 who] w fun e w' => e = .returned (.bool true) ∧ Gr w w' := by
  have CF1 := fun w => Lib.hid (few_ok A n0 c n hn0 hn hmn w)
  have CF2 := fun w => Lib.hid (few_ok A2 m0 d m hm0 hm hmm w)
  have n200 : n ≤ 200 := by omega
  have m200 : m ≤ 200 := by omega
  obtain ⟨q, hq⟩ : ∃ q, rd v = q := ⟨_, rfl⟩
  have hkind := wrap_kind v
  have hqok := rd_ok v
  have hback := rd_nm (rd_ok v)
  obtain ⟨N, E, hNE⟩ := WrR.any (rd v)
  obtain ⟨hN, rfl⟩ := wrR_read hNE
  rw [← hN] at hback
  obtain ⟨s, f, hsf⟩ := TimeR.any a
  obtain ⟨t, g, htg⟩ := TimeR.any b
  obtain ⟨u, h, huh⟩ := TimeR.any (a ++ b)
  have HTM := Lib.hid (times hsf htg huh)
  obtain ⟨S1, hS1⟩ : ∃ S : Nat, cnt who a = S := ⟨_, rfl⟩
  obtain ⟨S2, hS2⟩ : ∃ S : Nat, cnt who b = S := ⟨_, rfl⟩
  obtain ⟨S3, hS3⟩ : ∃ S : Nat, cnt who (a ++ b) = S := ⟨_, rfl⟩
  have hS4 := cnt_append who a b
  rw [hS1, hS2, hS3] at hS4
  have hS1n : S1 ≤ n := by have := cnt_le who a; rw [hA.1] at this; omega
  have hS2n : S2 ≤ m := by have := cnt_le who b; rw [hB.1] at this; omega
  have CRd := fun W => Lib.hid (Read_is v W)
  have CWr := fun W => Lib.hid (Write_is hNE W)
  have CRN := fun W => Lib.hid (Read_is N W)
  have CRi := fun W => Lib.hid (Right_is (rd v) true ⟨fun _ => hqok, fun _ => rfl⟩ W)
  rw [hback] at CRN
  rw [hq] at CRd CWr CRN CRi hkind
  have hneq := fun W => run_pick_neq q W
  have Cal := fun W => Lib.hid (alive_ok W)
  have CA1 := fun W (h : IMem W A n a) => Lib.hid (All_is (c := c) h (by omega))
  have CA2 := fun W (h : IMem W A2 m b) => Lib.hid (All_is (c := d) h (by omega))
  obtain ⟨K, hK⟩ : ∃ K, n + m = K := ⟨_, rfl⟩
  have CA3 := fun W A3 k (h : IMem W A3 K (a ++ b)) => Lib.hid (All_is (c := k) h (by omega))
  have CT1 := fun W (h : IMem W A n a) => Lib.hid (Time_is (c := c) h (by omega) hsf)
  have CT2 := fun W (h : IMem W A2 m b) => Lib.hid (Time_is (c := d) h (by omega) htg)
  have CT3 := fun W A3 k (h : IMem W A3 K (a ++ b)) => Lib.hid (Time_is (c := k) h (by omega) huh)
  have CS1 := fun W (h : IMem W A n a) => Lib.hid (Share_is (c := c) h (by omega) who)
  have CS2 := fun W (h : IMem W A2 m b) => Lib.hid (Share_is (c := d) h (by omega) who)
  have CS3 := fun W A3 k (h : IMem W A3 K (a ++ b)) => Lib.hid (Share_is (c := k) h (by omega) who)
  rw [hS1] at CS1
  rw [hS2] at CS2
  rw [hS3] at CS3
  have hadd : IntKind.i64.wrap ((S1 : Int) + (S2 : Int)) = (S3 : Int) := by rw [wrap_id (by omega) (by omega)]; omega
  have haddl : IntKind.i64.wrap ((n : Int) + (m : Int)) = (K : Int) := by rw [wrap_id (by omega) (by omega)]; omega
  have HM1 := Lib.hid hA
  have HM2 := Lib.hid hB
  have HKK := Lib.hid hK
  have hib := rd_all a
  have hib2 := rd_all b
  have hmap : (a ++ b).map rd = a.map rd ++ b.map rd := by simp
  have hla : (a.map rd).length = n := by rw [List.length_map]; exact hA.1
  have hlb : (b.map rd).length = m := by rw [List.length_map]; exact hB.1
  have HIB := Lib.hid (And.intro hib hib2)
  have HMAP := Lib.hid hmap
  have HLA := Lib.hid hla
  have HLB := Lib.hid hlb
  obtain ⟨i0, hi0, hz0, hz1, hz2⟩ := info_parts infoInt
  have HI0 := Lib.hid hi0
  have HZ := Lib.hid hz0
  have HZ1 := Lib.hid hz1
  have HZ2 := Lib.hid hz2
  clear hib hib2 hmap hla hlb hi0 hz0 hz1 hz2
  have HSUM := Lib.hid (And.intro hadd haddl)
  have HKD := Lib.hid hkind
  clear hA hB hc hd hn hm hn0 hm0 hmn hmm hq hqok hback hNE hN hsf htg huh hS1 hS2 hS3 hS4 hadd haddl hkind
  go_enter Try.func4, Try.ntmps4
  go_wp2_with fail
  with_reducible refine (CRd _).out.mono ?_
  rintro e w1 ⟨rfl, g1⟩
  have HB := Lib.hid (Blk.new w1 #[.int .i64 q.1, .int .i64 q.2] 23)
  have HG := Lib.hid (g1.al (.cells #[.int .i64 q.1, .int .i64 q.2] 23))
  replace HM1 := Lib.hid (HM1.out.gr HG.out)
  replace HM2 := Lib.hid (HM2.out.gr HG.out)
  clear g1 CRd
  go_wp2_with fail
  with_reducible refine (CWr _).out.mono ?_
  rintro e w2 ⟨rfl, g⟩
  replace HB := Lib.hid (HB.out.gr g)
  replace HG := Lib.hid (HG.out.trans g)
  replace HM1 := Lib.hid (HM1.out.gr g)
  replace HM2 := Lib.hid (HM2.out.gr g)
  clear g CWr
  have b0 := (HB.out.at_ (k := 0) rfl).1
  have b1 := (HB.out.at_ (k := 1) rfl).1
  have bl := HB.out.lt
  obtain ⟨k1, hk1⟩ : ∃ B, decide (0 ≤ v) = B := ⟨_, rfl⟩
  have hk2 : (q.1 == 0) = k1 := by rw [← hk1]; exact HKD.out.symm
  go_upto_region 3 with fail
  go_region_held3 (fun W => W.cell? ⟨w1.heap.size, 0, none⟩ = some (.int .i64 q.1) ∧ W.cell? ⟨w1.heap.size, 1, none⟩ = some (.int .i64 q.2) ∧ w1.heap.size < W.heap.size ∧ Gr w2 W)
    (first | exact ⟨b0, b1, bl, (Gr.refl w2).dr⟩ | assumption | (go_split_ands; exact ⟨(hb.cell (p := ⟨w1.heap.size, 0, none⟩) (by assumption)).trans (by assumption), (hb.cell (p := ⟨w1.heap.size, 1, none⟩) (by assumption)).trans (by assumption), Nat.lt_of_lt_of_le (by assumption) hb.size, Gr.trans (by assumption) hb⟩))
    (first
      | (go_at_call 9; (with_reducible refine (CRN _).out.mono ?_); rintro ee w9 ⟨rfl, hb⟩)
      | (go_at_call 11; (with_reducible refine (CRi _).out.mono ?_); rintro ee w9 ⟨rfl, hb⟩)
      | (go_at_call 15; (with_reducible refine (Cal _).out.mono ?_); rintro ee w9 ⟨rfl, hb⟩))
  rename_i hH
  have G3 := hH.2.2.2
  replace HG := Lib.hid (HG.out.trans G3)
  replace HM1 := Lib.hid (HM1.out.gr G3)
  replace HM2 := Lib.hid (HM2.out.gr G3)
  clear hH G3 b0 b1 bl HB CRi CRN hneq Cal hk1 hk2
  generalize w9 = w3 at *
  go_wp2_with fail
  with_reducible refine (CF1 _).out.mono ?_
  rintro e w4 ⟨rfl, rfl⟩
  go_wp2_with fail
  with_reducible refine (CF2 _).out.mono ?_
  rintro e w5 ⟨rfl, rfl⟩
  clear CF1 CF2
  rename World => W5
  have o0 := omem_empty (enc := Value.int .i64) (ok := B64) W5 3 (Nat.le_refl _)
  have g0 := (Gr.refl W5).al (.cells #[] 3)
  go_wp2_with (at_builtin; refine Mark.stop ?_)
  refine Mark.go ?_
  refine wpList_append_omem2 _ (Value.int .i64) B64 rfl (.tmp 60) (.tmp 61) 24 rfl (fun _ => rfl) W5.heap.size 3 i0 (.int .i64 0) 8 Try.underlying24 HI0.out HZ.out HZ1.out HZ2.out rfl _ 0 0 [] rfl o0 A n c a rfl (HM1.out.gr g0) (by unfold maxLen; omega) (by omega) g0.size ?_
  intro A6 c6 w6 own6 gb6 _
  simp only [Nat.zero_add, List.nil_append] at own6
  have G6 := Lib.hid (g0.gb gb6 (fun k hk => (o0.lt k hk).1))
  simp only [Nat.zero_add]
  clear gb6 o0 g0
  go_wp2_with (at_builtin; refine Mark.stop ?_)
  refine Mark.go ?_
  refine wpList_append_omem2 _ (Value.int .i64) B64 rfl (.tmp 62) (.tmp 63) 24 rfl (fun _ => rfl) W5.heap.size 3 i0 (.int .i64 0) 8 Try.underlying24 HI0.out HZ.out HZ1.out HZ2.out rfl A6 n c6 a rfl own6 A2 m d b rfl (HM2.out.gr G6.out) (by unfold maxLen; omega) (by omega) G6.out.size ?_
  intro A7 c7 w7 own7 gb7 _
  have G7 := Lib.hid (G6.out.gb gb7 (fun k hk => (own6.lt k hk).1))
  rw [HKK.out] at own7 ⊢
  have HM3 := Lib.hid own7.mem
  replace HG := Lib.hid (HG.out.trans G7.out)
  replace HM1 := Lib.hid (HM1.out.gr G7.out)
  replace HM2 := Lib.hid (HM2.out.gr G7.out)
  clear gb7 own6 own7 G6 G7 HI0 HZ HZ1 HZ2
  go_wp2_with fail
  with_reducible refine (CA1 _ HM1.out).out.mono ?_
  rintro e w8 ⟨⟨B1, d1, rfl, hd1, hd1', hB1, -⟩, g⟩
  replace HG := Lib.hid (HG.out.trans g)
  replace HM1 := Lib.hid (HM1.out.gr g)
  replace HM2 := Lib.hid (HM2.out.gr g)
  replace HM3 := Lib.hid (HM3.out.gr g)
  have HB1 := Lib.hid hB1
  clear g hB1 CA1
  go_wp2_with fail
  with_reducible refine (CA2 _ HM2.out).out.mono ?_
  rintro e w9 ⟨⟨B2, d2, rfl, hd2, hd2', hB2, -⟩, g⟩
  replace HG := Lib.hid (HG.out.trans g)
  replace HM1 := Lib.hid (HM1.out.gr g)
  replace HM2 := Lib.hid (HM2.out.gr g)
  replace HM3 := Lib.hid (HM3.out.gr g)
  replace HB1 := Lib.hid (HB1.out.gr g)
  have HB2 := Lib.hid hB2
  clear g hB2 CA2
  go_wp2_with fail
  with_reducible refine (CA3 _ _ _ HM3.out).out.mono ?_
  rintro e w10 ⟨⟨B3, d3, rfl, hd3, hd3', hB3, -⟩, g⟩
  replace HG := Lib.hid (HG.out.trans g)
  replace HM1 := Lib.hid (HM1.out.gr g)
  replace HM2 := Lib.hid (HM2.out.gr g)
  replace HM3 := Lib.hid (HM3.out.gr g)
  replace HB1 := Lib.hid (HB1.out.gr g)
  replace HB2 := Lib.hid (HB2.out.gr g)
  have HB3 := Lib.hid hB3
  clear g hB3 CA3
  obtain ⟨hadd, haddl⟩ := HSUM.out
  go_wp2_with fail
  with_reducible refine (CS3 _ _ _ HM3.out).out.mono ?_
  rintro e w11 ⟨rfl, g⟩
  replace HG := Lib.hid (HG.out.trans g)
  replace HM1 := Lib.hid (HM1.out.gr g)
  replace HM2 := Lib.hid (HM2.out.gr g)
  replace HM3 := Lib.hid (HM3.out.gr g)
  replace HB1 := Lib.hid (HB1.out.gr g)
  replace HB2 := Lib.hid (HB2.out.gr g)
  replace HB3 := Lib.hid (HB3.out.gr g)
  clear g CS3
  go_wp2_with fail
  with_reducible refine (CS1 _ HM1.out).out.mono ?_
  rintro e w12 ⟨rfl, g⟩
  replace HG := Lib.hid (HG.out.trans g)
  replace HM1 := Lib.hid (HM1.out.gr g)
  replace HM2 := Lib.hid (HM2.out.gr g)
  replace HM3 := Lib.hid (HM3.out.gr g)
  replace HB1 := Lib.hid (HB1.out.gr g)
  replace HB2 := Lib.hid (HB2.out.gr g)
  replace HB3 := Lib.hid (HB3.out.gr g)
  clear g CS1
  go_wp2_with fail
  with_reducible refine (CS2 _ HM2.out).out.mono ?_
  rintro e w13 ⟨rfl, g⟩
  replace HG := Lib.hid (HG.out.trans g)
  replace HM1 := Lib.hid (HM1.out.gr g)
  replace HM2 := Lib.hid (HM2.out.gr g)
  replace HM3 := Lib.hid (HM3.out.gr g)
  replace HB1 := Lib.hid (HB1.out.gr g)
  replace HB2 := Lib.hid (HB2.out.gr g)
  replace HB3 := Lib.hid (HB3.out.gr g)
  clear g CS2
  have o0 := kown_empty w13
  have g0 := (Gr.refl w13).al (.cells #[] 23)
  go_wp2_with (at_builtin; refine Mark.stop ?_)
  refine Mark.go ?_
  refine wpList_append_picks (v := .slice (some ⟨w13.heap.size, 0, none⟩) 0 0) (news := a.map rd) rfl (.tmp 92) (.tmp 93) rfl rfl rfl o0 (HB1.out.gr g0) (by simp; omega) (by simp) ?_
  intro v14 w14 own14 gb14
  rw [List.nil_append] at own14
  have G14 := Lib.hid (g0.gb gb14 (fun k hk => o0.late hk))
  obtain ⟨B14, d14, rfl, hB14, hd14, hd14', -⟩ := own_mem own14 HIB.out.1
  rw [HLA.out] at own14 hB14 hd14 ⊢
  clear gb14 o0 g0 hB14
  go_wp2_with (at_builtin; refine Mark.stop ?_)
  refine Mark.go ?_
  refine wpList_append_picks (v := .slice B14 n d14) (news := b.map rd) rfl (.tmp 94) (.tmp 95) rfl rfl rfl own14 (HB2.out.gr G14.out) (by simp [HLA.out]; omega) G14.out.size ?_
  intro v15 w15 own15 gb15
  have G15 := Lib.hid (G14.out.gb gb15 (fun k hk => own14.late hk))
  obtain ⟨B15, d15, rfl, hB15, hd15, hd15', -⟩ := own_mem own15 (fun x hx => by
    rcases List.mem_append.1 hx with h | h
    · exact HIB.out.1 x h
    · exact HIB.out.2 x h)
  have hlk : (a.map rd ++ b.map rd).length = K := by rw [List.length_append, HLA.out, HLB.out, HKK.out]
  rw [hlk] at hB15 hd15 ⊢
  have hB3' := HB3.out.gr G15.out
  rw [HMAP.out] at hB3'
  obtain ⟨L3, hL3⟩ : ∃ L3, a.map rd ++ b.map rd = L3 := ⟨_, rfl⟩
  rw [hL3] at hB3' hB15
  have HQ1 := Lib.hid hB3'
  have HQ2 := Lib.hid hB15
  replace HG := Lib.hid (HG.out.trans G15.out)
  replace HM1 := Lib.hid (HM1.out.gr G15.out)
  replace HM2 := Lib.hid (HM2.out.gr G15.out)
  replace HM3 := Lib.hid (HM3.out.gr G15.out)
  clear gb15 own15 own14 G14 G15 hB3' hB15 hlk hL3 HB1 HB2 HB3 HMAP HIB HLA HLB HSUM hadd haddl hS1n hS2n
  have hK400 : K ≤ 400 := by omega
  clear hK HKK
  go_wp2_with fail
  go_loopw [98] (fun i wr => ∃ k : Nat, k ≤ K ∧ i = .int .i64 (k : Int) ∧ Hid (Gr w15 wr)) (fun i _ => K - (intOf i).toNat)
  case atStart => exact ⟨0, Nat.zero_le _, rfl, Lib.hid (Gr.refl _)⟩
  case round =>
    obtain ⟨k, hk, rfl, HGR⟩ := hrel
    by_cases hlt : k < K
    · obtain ⟨b1, off1, y, rfl, hbl1, hy, -, -, p0, p1⟩ := (HQ1.out.gr HGR.out).at_ hlt
      obtain ⟨b2, off2, y2, rfl, hbl2, hy2, -, -, r0, r1⟩ := (HQ2.out.gr HGR.out).at_ hlt
      obtain rfl : y = y2 := by rw [hy] at hy2; exact Option.some.inj hy2
      have hneq := fun W => run_pick_neq y W
      have k0 : (0 : Int) ≤ (k : Int) := by omega
      have k1 : (k : Int) < (K : Int) := by omega
      have ga := (Gr.refl wr).al (.cells #[.int .i64 y.1, .int .i64 y.2] 23)
      have BX := Blk.new wr #[.int .i64 y.1, .int .i64 y.2] 23
      have x0 := (BX.at_ (k := 0) rfl).1
      have x1 := (BX.at_ (k := 1) rfl).1
      have z0 := (ga.cell (p := ⟨b1, off1 + k * 2, none⟩) hbl1).trans p0
      have z1 := (ga.cell (p := ⟨b1, off1 + k * 2 + 1, none⟩) hbl1).trans p1
      have HG9 := Lib.hid ((HGR.out.trans ga).dr)
      have zl := Nat.lt_of_lt_of_le hbl1 ga.size
      clear hy hy2 ga BX CT1 CT2 CT3
      go_upto_region 13 with fail
      go_region
      all_goals (
        clear x0 x1 z0 z1 p0 p1 r0 r1 hneq
        go_wp2_with fail
        go_roundw
        case rel => exact ⟨k + 1, by omega, by go_num, HG9⟩
        case measure => simp [intOf]; omega)
    · obtain rfl : k = K := by omega
      replace HG := Lib.hid (HG.out.trans HGR.out)
      replace HM1 := Lib.hid (HM1.out.gr HGR.out)
      replace HM2 := Lib.hid (HM2.out.gr HGR.out)
      replace HM3 := Lib.hid (HM3.out.gr HGR.out)
      clear HGR HQ1 HQ2
      go_wp2_with fail
      with_reducible refine (CT1 _ HM1.out).out.mono ?_
      rintro e w16 ⟨rfl, g16⟩
      replace HG := Lib.hid (HG.out.trans g16)
      replace HM2 := Lib.hid (HM2.out.gr g16)
      replace HM3 := Lib.hid (HM3.out.gr g16)
      clear g16 CT1 HM1
      go_wp2_with fail
      with_reducible refine (CT2 _ HM2.out).out.mono ?_
      rintro e w17 ⟨rfl, g17⟩
      replace HG := Lib.hid (HG.out.trans g17)
      replace HM3 := Lib.hid (HM3.out.gr g17)
      clear g17 CT2 HM2
      go_wp2_with fail
      with_reducible refine (CT3 _ _ _ HM3.out).out.mono ?_
      rintro e w18 ⟨rfl, g18⟩
      replace HG := Lib.hid (HG.out.trans g18)
      clear g18 CT3 HM3
      rcases HTM.out with ⟨rfl, rfl, rfl, rfl, hwr⟩ | ⟨rfl, rfl, rfl⟩ | ⟨rfl, rfl, rfl, rfl⟩ | ⟨rfl, rfl, rfl, rfl, hlt2, hwr⟩
      all_goals (
        clear HTM
        go_wp2_with fail
        go_ret
        exact ⟨rfl, HG.out⟩)
end
theorem ScriptBack_walk (w : World) (v : Int) (hv : B64 v) (A : Option Addr) (n0 c : Nat) (a0 : List Int) (hc : n0 ≤ c) (hn : n0 ≤ 9223372036854775807) (hA : IMem w A n0 a0)
    (A2 : Option Addr) (m0 d : Nat) (b0 : List Int) (hd : m0 ≤ d) (hm : m0 ≤ 9223372036854775807) (hB : IMem w A2 m0 b0) (who : Int) (hw : B64 who) :
    Calls Try.prog 4 #[.int .i64 v, .slice A n0 c, .slice A2 m0 d, .int .i64 who] w fun e w' => e = .returned (.bool true) ∧ Gr w w' := by
  obtain ⟨n, hmn⟩ : ∃ n, (200 < n0 ∧ n = 200) ∨ (n0 ≤ 200 ∧ n = n0) := by
    by_cases h : 200 < n0
    · exact ⟨200, .inl ⟨h, rfl⟩⟩
    · exact ⟨n0, .inr ⟨by omega, rfl⟩⟩
  obtain ⟨m, hmm⟩ : ∃ n, (200 < m0 ∧ n = 200) ∨ (m0 ≤ 200 ∧ n = m0) := by
    by_cases h : 200 < m0
    · exact ⟨200, .inl ⟨h, rfl⟩⟩
    · exact ⟨m0, .inr ⟨by omega, rfl⟩⟩
  exact back_run (by omega) (by omega) hn hm hc hd (hA.take_ n (by omega)) (hB.take_ m (by omega)) hmn hmm

set_option maxRecDepth 100000 in
theorem ScriptBack_lifted (os : Os) (started : os.Started) (H : Type) (enc : TypeId × Value → H) :
    ReturnsInHanded {} Try.checked os 4 .any (Rows.scriptBackSpec.pre6 enc Try.prog Try.f4 Rows.scriptBackRow.domain false) (Rows.scriptBackSpec.post enc Try.prog Try.f4 false true false false) := by
  refine returnsInHanded_of_change (C := Try.checked) own started (by kernel_rfl) Try.func4
    (ChangeSpec.witness6 (enc := enc) (C := Try.checked) false ⟨#[], #[.int .i64 0, .slice none 0 0, .slice none 0 0, .int .i64 0], []⟩ 8 (by kernel_rfl) (by kernel_rfl) (by kernel_rfl) (by kernel_rfl)) ?_
  intro W base args ds gs before hval0 hW hcnd _
  have hval : ∀ (j : Nat) t v, Try.f4.params[j]? = some t → args[j]? = some v → Value.okWide Try.prog W .any base t v := hval0
  have hW' := hW
  obtain ⟨p, q, hA0, hV, rfl, hfz, hnd⟩ := hW
  have hA : DataW.TrodAll enc Try.prog W 0 (fun _ => true) true Try.f4.params.toList args.toList ds p := hA0
  rw [Try.params4] at hA hval
  have hK := hA
  obtain ⟨v0, vs0, d0, ds0, p0, q0, hargs, rfl, hp, h0, r0⟩ := trodAll_cons hA
  obtain ⟨v1, vs1, d1, ds1, p1, q1, rfl, rfl, rfl, h1, r1⟩ := trodAll_cons r0
  obtain ⟨v2, vs2, d2, ds2, p2, q2, rfl, rfl, rfl, h2, r2⟩ := trodAll_cons r1
  obtain ⟨v3, vs3, d3, ds3, p3, q3, rfl, rfl, rfl, h3, r3⟩ := trodAll_cons r2
  obtain ⟨rfl, rfl, rfl⟩ := trodAll_nil r3
  obtain rfl : args = #[v0, v1, v2, v3] := by cases args; simp_all
  obtain ⟨rfl, rfl⟩ := trodVars_none hV
  obtain ⟨a0, rfl, rfl, rfl, w0⟩ := open_int Try.underlying3 (hval 0 3 v0 rfl rfl) h0
  obtain ⟨A1, n1, c1, l1, rfl, hc1, hn1, hm1⟩ := open_ints (hval 1 24 v1 rfl rfl) h1
  obtain ⟨A2, n2, c2, l2, rfl, hc2, hn2, hm2⟩ := open_ints (hval 2 24 v2 rfl rfl) h2
  obtain ⟨a3, rfl, rfl, rfl, w3⟩ := open_int Try.underlying3 (hval 3 3 v3 rfl rfl) h3
  clear hA0 hval0
  refine (ScriptBack_walk W a0 (wfb w0) A1 n1 c1 l1 hc1 hn1 hm1 A2 n2 c2 l2 hc2 hn2 hm2 a3 (wfb w3)).mono fun e W' ⟨he, hg⟩ => ?_
  subst he
  exact ⟨_, rfl, post_below (pa := p) (pv := []) hW' (fun _ _ _ => (trodAll_cons_mk (shut_bool Try.underlying4 _) trodAll_mk0))
    (fun sp hs => trodAll_stays laidOut hg sp (by kernel_rfl) hK (fun x hx => hW'.lt x (List.mem_append_left _ hx)) (fun x hx => hs x (List.mem_append_left _ hx))) (fun _ _ => rfl) rfl
    hg (ok_one (by kernel_rfl) rfl (okWide_bool_mk Try.underlying4 _))⟩

theorem ScriptBack_over : Rows.scriptBackRow.holds Try.pinned (OpenSpec.ofChange Rows.scriptBackSpec) :=
  OpenClaim.holds_of_wide 4 Try.f4 rfl rfl rfl rfl rfl rfl rfl ⟨rfl, rfl, rfl, rfl, rfl⟩ rfl rfl rfl rfl rfl (by kernel_rfl) Try.func4 (by kernel_rfl)
    (of_decide_eq_true (by kernel_rfl)) (by unfold Func.isWrapper; first | (rw [if_pos (by decide +kernel)]; kernel_rfl) | (rw [if_neg (by decide +kernel)]; exact ⟨rfl, rfl⟩))
    (fun os started H enc _ => ScriptBack_lifted os started H enc)

/-- The statement. -/
theorem ScriptBack_holds : Rows.ScriptBackSaid :=
  ScriptBack_over
#print axioms ScriptBack_holds
end Go.Proofs.Ytclhdpmlmbicjaa
