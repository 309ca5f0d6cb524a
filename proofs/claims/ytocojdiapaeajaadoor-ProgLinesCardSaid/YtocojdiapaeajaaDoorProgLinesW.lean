/-
  deadboltlaw12.ProgLines: the walk of the law.
-/
import Derived.Test.YtocojdiapaeajaaDoorProgBack
namespace Go.Proofs.YtocojdiapaeajaaDoor
open Go.ChangeShapes Go.WideShapes Go.ChangeAt Go.RowKit
set_option linter.unusedVariables false
set_option linter.unusedSimpArgs false
set_option maxRecDepth 100000
namespace P12

section
variable {w w' : World} {base lo : Nat} {A : Option Addr} {n c : Nat} {R : List PV} {B : Option Addr} {m d : Nat} {news : List PV}
/-- An append of programs behind a guard that says yes. -/
theorem wpList_append_progsW {ops : Array Oper} {rest : List Oper} {o : Oper} {a : Act} {Q : Exit → Act → World → Prop} (hwd : Region.wanted o (yielded ops a.tmps) = true) (s x : Operand)
    (ho : o.op = .call { callee := .builtin .append, args := #[s, x], argTypes := #[22, 22] }) (hs : a.eval s = .slice A n c) (hx : a.eval x = .slice B m d)
    (h : POwn w base lo A n c R) (hr : PMem w B m news) (hoff : ∀ x ∈ news, 0 < x.n → ∀ k, x.A.map (·.block) = some k → lo ≤ k ∧ k < w.heap.size ∧ A.map (·.block) ≠ some k)
    (hl : n + m ≤ 1000000) (hbase : base ≤ w.heap.size)
    (hK : ∀ A' c' w', Grown w base lo A n m R news A' c' w' → wpList Tryd.prog ops Q rest (a.put o.dst (.slice A' (n + m) c')) w') : wpList Tryd.prog ops Q (o :: rest) a w :=
  BigFrame.wpList_want hwd fun _ hK' => wp_append_progs s x ho hs hx h hr hoff hl hbase fun A' c' w' h1 => hK' _ _ (hK A' c' w' h1)
/-- What programs of an elder world read lies in no late block. -/
theorem off_late {W : World} (hm : PMem W B m news) {C : Option Addr} (hC : Late W.heap.size C) (hw : W.heap.size ≤ w.heap.size) :
    ∀ x ∈ news, 0 < x.n → ∀ k, x.A.map (·.block) = some k → 0 ≤ k ∧ k < w.heap.size ∧ C.map (·.block) ≠ some k := fun x hx h0 k hk => by
  obtain ⟨b, off, e, hb, _⟩ := (hm.2 x hx).1.2.2 h0
  rw [e] at hk
  obtain rfl : b = k := by simpa using hk
  refine ⟨Nat.zero_le _, by omega, fun e2 => ?_⟩
  have := hC _ e2
  omega
end
theorem textS_one {p : List Ac} : ∀ {l : List (List Ac)}, p ∈ l → (textS [p]).length ≤ (textS l).length
  | [], h => by cases h
  | q :: l, h => by
    rw [show textS [p] = lineS p ++ 10 :: textS [] from textS_cons p [], textS_cons, List.length_append, List.length_append, List.length_cons, List.length_cons]
    rw [show textS [] = [] from rfl]
    rcases List.mem_cons.1 h with rfl | h
    · simp
    · have := textS_one h
      rw [show textS [p] = lineS p ++ 10 :: textS [] from textS_cons p [], List.length_append, List.length_cons, show textS [] = [] from rfl] at this
      simp at this ⊢
      omega

set_option maxHeartbeats 8000000 in
theorem ProgLines_walk {w : World} (hg : Glob w) {A : Option Addr} {n c : Nat} {R : List PV} (hc : n ≤ c) (hn : n ≤ 9223372036854775807) (hm : PMem w A n R)
    {B : Option Addr} {m d : Nat} {T : List PV} (hd : m ≤ d) (hmm : m ≤ 9223372036854775807) (hb : PMem w B m T) :
    Calls Tryd.prog 7 #[.slice A n c, .slice B m d] w fun e w' => e = .returned (.bool true) ∧ Gr w w' := by
  have cf := Lib.hid (few_is hm hc hn)
  have cf2 := fun W (g : Gr w W) => Lib.hid (few_is (w := W) (hb.gr g) hd hmm)
  have hg0 := Lib.hid hg
  have cal := fun W (g : Gr w W) => Lib.hid (alive_is (hg.gr g))
  clear hm hb hc hd hg
  go_enter Tryd.func7, Tryd.ntmps7
  go_wp2_with fail
  with_reducible refine cf.out.mono ?_
  rintro e W1 ⟨⟨A1, n1, c1, R1, rfl, -, hn1, ho1⟩, hb1⟩
  have G1 := Lib.hid hb1
  go_wp2_with fail
  with_reducible refine (cf2 _ G1.out).out.mono ?_
  rintro e W2 ⟨⟨A2, n2, c2, R2, rfl, -, hn2, ho2⟩, hb2⟩
  have G2 := Lib.hid (G1.out.trans hb2)
  have HA2 := Lib.hid (ho1.mem.gr hb2)
  have HB2 := Lib.hid ho2.mem
  clear hb1 ho1 cf cf2 hb2 ho2 G1
  have ca := Lib.hid (Print_any (c := c1) (hg0.out.gr G2.out) (by omega) HA2.out)
  go_wp2_with fail
  with_reducible refine ca.out.mono ?_
  rintro e W3 ⟨⟨T1, E1, rfl, hP1⟩, hb3⟩
  have cb := Lib.hid (Print_any (c := c2) (hg0.out.gr (G2.out.trans hb3)) (by omega) (HB2.out.gr hb3))
  have S3 := Lib.hid hb3
  clear hb3 ca
  go_wp2_with fail
  with_reducible refine cb.out.mono ?_
  rintro e W4 ⟨⟨T2, E2, rfl, hP2⟩, hb4⟩
  have S4 := Lib.hid (S3.out.trans hb4)
  have G4 := Lib.hid (G2.out.trans S4.out)
  clear hb4 cb S3
  have l1 := pmem_len HA2.out
  have l2 := pmem_len HB2.out
  rcases hP1 with ⟨_, rfl, rfl⟩ | ⟨hB1, rfl, rfl⟩
  · clear hP2
    go_wp2_with fail
    with_reducible refine (cal _ G4.out).out.mono ?_
    rintro e W5 ⟨rfl, hb5⟩
    have G5 := Lib.hid (G4.out.trans hb5)
    clear hb5
    go_wp2_with fail
    go_ret
    exact ⟨rfl, G5.out⟩
  rcases hP2 with ⟨_, rfl, rfl⟩ | ⟨hB2, rfl, rfl⟩
  · clear hB1
    go_wp2_with fail
    with_reducible refine (cal _ G4.out).out.mono ?_
    rintro e W5 ⟨rfl, hb5⟩
    have G5 := Lib.hid (G4.out.trans hb5)
    clear hb5
    go_wp2_with fail
    go_ret
    exact ⟨rfl, G5.out⟩
  obtain ⟨h8a, hfa⟩ := right_iff.1 hB1
  obtain ⟨h8b, hfb⟩ := right_iff.1 hB2
  have hts := textS_append (pl R1) (pl R2)
  have htl := congrArg List.length hts
  rw [List.length_append] at htl
  have z1 := bs_size (textS (pl R1))
  have z2 := bs_size (textS (pl R2))
  have z3 := textS_len (pl R1) hfa
  have z4 := textS_len (pl R2) hfb
  have hsum : bs (textS (pl R1)) ++ bs (textS (pl R2)) = bs (textS (pl R1 ++ pl R2)) := by rw [bs_append, hts]
  have hfit : Fit (pl R1 ++ pl R2) := fun q hq => (List.mem_append.1 hq).elim (hfa q) (hfb q)
  have hlen : (pl R1 ++ pl R2).length = n1 + n2 := by rw [List.length_append, l1, l2]
  have hone : ∀ p ∈ pl R1, rightB [p] = true ∧ (textS [p]).length ≤ (textS (pl R1)).length := fun p hp => by
    refine ⟨right_iff.2 ⟨by simp, fun q hq => ?_⟩, textS_one hp⟩
    rw [List.mem_singleton.1 hq]
    exact hfa p hp
  obtain ⟨Z, hZ⟩ : ∃ Z : Int, IntKind.i64.wrap (((bs (textS (pl R1))).size : Int) + ((bs (textS (pl R2))).size : Int)) = Z := ⟨_, rfl⟩
  have hZ2 : Z = (textS (pl R1 ++ pl R2)).length := by
    rw [← hZ, IntKind.wrap_i64]
    omega
  have hcat : ¬ 9223372036854775807 < (bs (textS (pl R1))).size + (bs (textS (pl R2))).size := by omega
  by_cases h20 : 2000 < (textS (pl R1 ++ pl R2)).length
  · have hz : (2000 : Int) < Z := by omega
    clear hfa hfb hts htl z1 z2 z3 z4 hsum hfit hlen hZ2 hB1 hB2 hone h8a h8b h20 l1 l2
    generalize bs (textS (pl R1)) = T1 at *
    generalize bs (textS (pl R2)) = T2 at *
    go_wp2_with fail
    with_reducible refine (cal _ G4.out).out.mono ?_
    rintro e W5 ⟨rfl, hb5⟩
    have G5 := Lib.hid (G4.out.trans hb5)
    clear hb5
    go_wp2_with fail
    go_ret
    exact ⟨rfl, G5.out⟩
  have hz : ¬ (2000 : Int) < Z := by omega
  have h1t : (textS (pl R1)).length ≤ 2000 := by omega
  have cp := fun e1 k1 P1 (h : prs (textS (pl R1 ++ pl R2)) = (e1, k1, P1)) => Parse_is (t := textS (pl R1 ++ pl R2)) (by omega) (hg0.out.gr G4.out) h
  rw [← hsum] at cp
  have hwn : IntKind.i64.wrap ((n1 : Int) + (n2 : Int)) = (n1 : Int) + (n2 : Int) := by rw [IntKind.wrap_i64]; omega
  by_cases h8 : 8 < n1 + n2
  · have hp := prs_many hfit (by rw [hlen]; exact h8) (by omega)
    have c3 := Lib.hid (cp _ _ _ hp)
    have h8' : (8 : Int) < (n1 : Int) + (n2 : Int) := by omega
    clear hfa hfb hts htl z1 z2 z3 z4 hsum hfit hlen hZ2 hB1 hB2 hone h8a h8b h20 l1 l2 cp hp h1t
    generalize bs (textS (pl R1)) = T1 at *
    generalize bs (textS (pl R2)) = T2 at *
    go_wp2_with fail
    with_reducible refine c3.out.mono ?_
    rintro e W5 ⟨⟨A5, n5, c5, rfl, hL5⟩, hb5⟩
    obtain rfl : n5 = 0 := hL5.len.symm
    have G5 := Lib.hid (G4.out.trans hb5)
    clear hb5 hL5 c3
    go_wp2_with fail
    with_reducible refine (cal _ G5.out).out.mono ?_
    rintro e W6 ⟨rfl, hb6⟩
    have G6 := Lib.hid (G5.out.trans hb6)
    clear hb6
    go_wp2_with fail
    go_ret
    exact ⟨rfl, G6.out⟩
  · have hB12 : rightB (pl R1 ++ pl R2) = true := right_iff.2 ⟨by omega, hfit⟩
    have hp := prs_textS hB12 (by omega)
    have c3 := Lib.hid (cp _ _ _ hp)
    have h8' : ¬ (8 : Int) < (n1 : Int) + (n2 : Int) := by omega
    have HONE := Lib.hid hone
    clear hfa hfb hts htl z1 z2 z3 z4 hsum hfit hZ2 hB1 hB2 hone h8a h8b h20 cp hp
    obtain ⟨TT1, hTT1⟩ : ∃ TT, bs (textS (pl R1)) = TT := ⟨_, rfl⟩
    obtain ⟨TT2, hTT2⟩ : ∃ TT, bs (textS (pl R2)) = TT := ⟨_, rfl⟩
    rw [hTT1] at c3 hcat hZ ⊢
    rw [hTT2] at c3 hcat hZ ⊢
    clear hTT1 hTT2
    go_wp2_with fail
    with_reducible refine c3.out.mono ?_
    rintro e W5 ⟨⟨A5, n5, c5, rfl, R5, hR5, hO5⟩, hb5⟩
    have S5 := Lib.hid (S4.out.trans hb5)
    have G5 := Lib.hid (G4.out.trans hb5)
    obtain rfl : n5 = n1 + n2 := by
      have h1 := pmem_len hO5.mem
      rw [hR5, hlen] at h1
      exact h1.symm
    have HM5 := Lib.hid hO5.mem
    have HA5 := Lib.hid (HA2.out.gr S5.out)
    have HB5 := Lib.hid (HB2.out.gr S5.out)
    have HR5 := Lib.hid hR5
    clear hb5 c3 hO5 hR5 S4 HA2 HB2 S5 G4 G2 l1 l2 hlen
    have o1 : POwn (W5.alloc (.cells #[] 32)) W5.heap.size 0 (some ⟨W5.heap.size, 0, none⟩) 0 0 [] := pown_empty (Blk.new W5 #[] 32) (Nat.le_refl _)
    have g1 := (Gr.refl W5).al (.cells #[] 32)
    go_wp2_with (at_builtin; refine Mark.stop ?_)
    refine Mark.go ?_
    refine wpList_append_progsW (by rfl) (.tmp 80) (.tmp 81) rfl rfl rfl o1 (HA5.out.gr g1) (off_late HA5.out o1.late g1.size) (by omega) g1.size ?_
    intro A6 c6 W6 hG6
    have o2 := hG6.1
    have g2 := g1.gb hG6.2 (fun k hk => o1.late k hk)
    clear hG6 o1 g1
    simp only [Nat.zero_add, List.nil_append] at o2 ⊢
    go_wp2_with (at_builtin; refine Mark.stop ?_)
    refine Mark.go ?_
    refine wpList_append_progsW (by rfl) (.tmp 82) (.tmp 83) rfl rfl rfl o2 (HB5.out.gr g2) (off_late HB5.out o2.late g2.size) (by omega) g2.size ?_
    intro A7 c7 W7 hG7
    have o3 := hG7.1
    have g3 := g2.gb hG7.2 (fun k hk => o2.late k hk)
    clear hG7 o2 g2
    have hpp : (pl R5 == pl (R1 ++ R2)) = true := by
      rw [HR5.out]
      unfold pl
      rw [List.map_append]
      exact beq_self_eq_true _
    have c4 := Lib.hid (rSame_is (c := c5) (d := c7) hpp (by omega) (by omega) W7 (HM5.out.gr g3) o3.mem)
    have S7 := Lib.hid g3
    clear o3 hpp HB5 g3 HM5 HR5
    go_wp2_with fail
    with_reducible refine c4.out.mono ?_
    rintro e W8 ⟨rfl, q8, hq8⟩
    have S8 := Lib.hid (S7.out.trans (show Gr W7 W8 from by rw [hq8]; exact (Gr.refl W7).drN q8))
    clear hq8 c4 S7
    go_wp2_with fail
    with_reducible refine (cal _ (G5.out.trans S8.out)).out.mono ?_
    rintro e W9 ⟨rfl, hb9⟩
    have S9 := Lib.hid (S8.out.trans hb9)
    clear hb9 S8
    have HA9 := Lib.hid (HA5.out.gr S9.out)
    have G9 := Lib.hid (G5.out.trans S9.out)
    clear S9 HA5
    go_wp2_with fail
    go_loopw [94] (fun i wr => ∃ (k : Nat), k ≤ n1 ∧ i = .int .i64 (k : Int) ∧ Hid (Gr W9 wr)) (fun i _ => n1 - (intOf i).toNat)
    case atStart => exact ⟨0, Nat.zero_le _, rfl, Lib.hid (Gr.refl _)⟩
    case round =>
      obtain ⟨k, hk, rfl, HG⟩ := hrel
      by_cases hlt : k < n1
      · obtain ⟨b, off, x, rfl, hbl, hx, hxo, k0⟩ := (HA9.out.gr HG.out).at_ hlt
        have hxl : x.l ∈ pl R1 := List.mem_map.2 ⟨x, List.mem_of_getElem? hx, rfl⟩
        obtain ⟨q1, q2⟩ := HONE.out x.l hxl
        have g1 := (Gr.refl wr).al (.cells #[.slice x.A x.n x.c] 32)
        have GA := Lib.hid (G9.out.trans (HG.out.trans g1))
        have c5' := Lib.hid (Print_ok (c := 1) (R := [x]) (hg0.out.gr GA.out) q1 (pmem_one (Blk.new wr #[.slice x.A x.n x.c] 32) (hxo.gr g1)))
        have HXO := Lib.hid (hxo.gr g1)
        have hxn : x.n ≤ 9223372036854775807 := hxo.lt
        have i0 : (0 : Int) ≤ (k : Int) := by omega
        have i1 : (k : Int) < (n1 : Int) := by omega
        have SG := Lib.hid (HG.out.trans g1)
        have hp1 : prs (textS (pl [x])) = (0, 0, pl [x]) := prs_textS q1 (by have : pl [x] = [x.l] := rfl; rw [this]; omega)
        clear hx hxo hxl q1 g1
        go_wp2_with fail
        with_reducible refine c5'.out.mono ?_
        rintro e X1 ⟨rfl, hx1⟩
        have c6' := Lib.hid (Parse_is (t := textS (pl [x])) (by have : pl [x] = [x.l] := rfl; rw [this]; omega) (hg0.out.gr (GA.out.trans hx1)) hp1)
        have HXO2 := Lib.hid (HXO.out.gr hx1)
        have SG2 := Lib.hid (SG.out.trans hx1)
        clear hx1 c5' HXO SG
        go_wp2_with fail
        with_reducible refine c6'.out.mono ?_
        rintro e X2 ⟨⟨A8, n8, c8, rfl, R8, hR8, hO8⟩, hx2⟩
        obtain ⟨y, rfl⟩ : ∃ y, R8 = [y] := by
          have h1 := congrArg List.length hR8
          unfold pl at h1
          rw [List.length_map, List.length_map] at h1
          exact List.length_eq_one_iff.1 h1
        have hyl : y.l = x.l := by simpa [pl] using hR8
        have hM8 := hO8.mem
        obtain rfl : n8 = 1 := hM8.len.symm
        obtain ⟨b8, off8, y', rfl, hbl8, hy8, hok8, y0⟩ := hM8.at_ (k := 0) (by omega)
        obtain rfl : y = y' := by simpa using hy8
        simp only [Nat.add_zero] at y0
        have hyn : y.n ≤ 9223372036854775807 := hok8.lt
        have c7' := Lib.hid (rActs_is (c := y.c) (d := x.c) (v := true) (by rw [hyl]; exact beq_self_eq_true _) hyn hxn X2 hok8.1 (HXO2.out.gr hx2).1)
        have SG3 := Lib.hid (SG2.out.trans hx2)
        clear hR8 hO8 hM8 hy8 hok8 hyl hx2 c6' HXO2 SG2
        obtain ⟨yA, yn, yc, yl⟩ := y
        obtain ⟨xA, xn, xc, xl⟩ := x
        dsimp only at *
        go_wp2_with fail
        with_reducible refine c7'.out.mono ?_
        rintro e X3 ⟨rfl, q9, hq9⟩
        have SG4 := Lib.hid (SG3.out.trans (show Gr X2 X3 from by rw [hq9]; exact (Gr.refl X2).drN q9))
        clear hq9 c7' SG3
        go_wp2_with fail
        go_roundw
        case rel => exact ⟨k + 1, by omega, by go_num, SG4⟩
        case measure => simp [intOf]; omega
      · obtain rfl : k = n1 := by omega
        go_wp2_with fail
        go_ret
        exact ⟨rfl, G9.out.trans HG.out⟩
end P12
end Go.Proofs.YtocojdiapaeajaaDoor
