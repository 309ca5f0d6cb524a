/-
  The law TreapShape.
-/
import Derived.Test.YtpblonfcdnephaaTreapAlive
import Derived.Test.YtpblonfcdnephaaTreapDel
import Derived.Test.YtpblonfcdnephaaTreapKeys
import Derived.Test.YtpblonfcdnephaaEnds
namespace Go.Proofs.Ytpblonfcdnephaa
open Go.ChangeShapes Go.WideShapes Go.ChangeAt Go.RowKit
set_option linter.unusedVariables false
set_option linter.unusedSimpArgs false

/-- Some keys came, some went. -/
structure SS (w wr : World) (ta : Nat) (r : Int) (A : Option Addr) (n c : Nat) (l : List Nd) (t : T) (C : Option Addr) : Prop where
  gr : Gr w wr
  b0 : Blk wr ta #[.int .i64 r, .slice A n c] 24
  mem : NMem wr A n l
  good : Good l r t
  keys : IMem wr C n t.inord
theorem SS.gr' {w wr wr' : World} {ta : Nat} {r : Int} {A : Option Addr} {n c : Nat} {l : List Nd} {t : T} {C : Option Addr} (S : SS w wr ta r A n c l t C) (g : Gr wr wr') : SS w wr' ta r A n c l t C :=
  ⟨S.gr.trans g, S.b0.gr g, S.mem.gr g, S.good, S.keys.gr g⟩
/-- Which place is read. -/
theorem turned (u : Int) : ∃ a b s, u.tmod 64 = a ∧ IntKind.i64.wrap (a + 64) = b ∧ b.tmod 64 = s ∧ 0 ≤ s ∧ s < 64 := by
  refine ⟨_, _, _, rfl, rfl, rfl, ?_⟩
  have h := Int.tmod_lt_of_pos u (show (0 : Int) < 64 by decide)
  have h2 : -64 < u.tmod 64 := by
    have := Int.lt_tmod_of_pos u (show (0 : Int) < 64 by decide)
    omega
  rw [wrap_id (by omega) (by omega), Int.tmod_eq_emod_of_nonneg (by omega)]
  omega
theorem placed {k n : Nat} {s : Int} (hk : k < n) (hn : n ≤ 64) (h0 : 0 ≤ s) (h1 : s < 64) : ∃ (q : Int) (p : Nat), IntKind.i64.wrap ((k : Int) + s) = q ∧ q.tmod (n : Int) = (p : Int) ∧ p < n ∧ p = (k + s.toNat) % n := by
  refine ⟨(k : Int) + s, (k + s.toNat) % n, wrap_id (by omega) (by omega), ?_, Nat.mod_lt _ (by omega), rfl⟩
  rw [Int.tmod_eq_emod_of_nonneg (by omega), show (k : Int) + s = ((k + s.toNat : Nat) : Int) from by omega]
  rfl
/-- Each place is read once. -/
theorem all_read {n s j : Nat} (hj : j < n) : ∃ i, i < n ∧ (i + s) % n = j := by
  refine ⟨(j + (n - s % n)) % n, Nat.mod_lt _ (by omega), ?_⟩
  have hs : s % n < n := Nat.mod_lt _ (by omega)
  rw [Nat.mod_add_mod, ← Nat.add_mod_mod]
  rw [show j + (n - s % n) + s % n = j + n from by omega, Nat.add_mod_right, Nat.mod_eq_of_lt hj]

section
set_option maxRecDepth 100000 in
set_option maxHeartbeats 16000000 in
theorem TreapShape_walk (w : World) (A0 : Option Addr) (n0 c0 : Nat) (L : List Int) (hc : n0 ≤ c0) (hn : n0 ≤ 9223372036854775807) (hm : IMem w A0 n0 L) (A1 : Option Addr) (n1 c1 : Nat) (L1 : List Int) (hc1 : n1 ≤ c1) (hn1 : n1 ≤ 9223372036854775807) (hm1 : IMem w A1 n1 L1) (u : Int) (hu : B64 u) :
    Calls Try.prog 5 #[.slice A0 n0 c0, .slice A1 n1 c1, .int .i64 u] w fun e w' => e = .returned (.bool true) ∧ Gr w w' := by
  obtain ⟨m, hmn⟩ : ∃ m, (40 < n1 ∧ m = 40) ∨ (n1 ≤ 40 ∧ m = n1) := by
    by_cases h : 40 < n1
    · exact ⟨40, .inl ⟨h, rfl⟩⟩
    · exact ⟨n1, .inr ⟨by omega, rfl⟩⟩
  have hm1n : m ≤ n1 := by omega
  have hmin : min (n1 : Int) 40 = (m : Int) := by omega
  have hmax : max (m : Int) 0 = (m : Int) := by omega
  have hp0 : (0 : Int) ≤ (m : Int) := by omega
  have hp1 : (m : Int) ≤ (c1 : Int) := by omega
  have kM := Lib.hid (made_is hm hc hn)
  have hal := fun W => alive_ok W
  have kal := Lib.hid hal
  have HM1 := Lib.hid hm1
  clear hal hm hmn hm1
  go_enter Try.func5, Try.ntmps5
  go_wp2_with fail
  with_reducible refine kM.out.mono ?_
  rintro e w1 ⟨r, A, n, c, l, t, C, d, rfl, hma, hga, hka, hb1, _⟩
  have BT := Blk.new w1 #[.int .i64 r, .slice A n c] 24
  have HB1 := Lib.hid hb1
  clear hb1 kM
  go_wp2_with fail
  with_reducible refine (kal.out _).mono ?_
  rintro e w2 ⟨rfl, hb2⟩
  have g12 := ((Gr.refl w1).al (.cells #[.int .i64 r, .slice A n c] 24)).trans hb2
  have HS0 := Lib.hid (show SS w w2 w1.heap.size r A n c l t C from ⟨HB1.out.trans g12, BT.gr hb2, hma.gr g12, hga, hka.gr g12⟩)
  have hta : w.heap.size ≤ w1.heap.size := HB1.out.size
  clear BT hb2 g12 hga hma hka HB1 kal
  generalize w1.heap.size = ta at *
  go_wp2_with fail
  go_loopw [8, 44] (fun K i wr => ∃ (k : Nat) (r : Int) (A : Option Addr) (n c : Nat) (l : List Nd) (t : T) (C : Option Addr) (d : Nat), k ≤ m ∧ i = .int .i64 (k : Int) ∧ K = .slice C n d ∧ Hid (SS w wr ta r A n c l t C)) (fun _ i _ => m - (intOf i).toNat)
  case atStart => exact ⟨0, _, _, _, _, _, _, _, _, Nat.zero_le _, rfl, rfl, HS0⟩
  case round =>
    clear HS0
    obtain ⟨k, r, A, n, c, l, t, C, d, hk, rfl, rfl, HS⟩ := hrel
    have hn64 : n ≤ 64 := by have := HS.out.good.2.2.1; have := HS.out.mem.1; omega
    have hd : True := trivial
    by_cases hlt : k < m
    · obtain ⟨b, off, x, rfl, hbl, hx, hix, cx⟩ := (HM1.out.gr HS.out.gr).at_ (show k < n1 from by omega)
      obtain ⟨ux, eu, eu1, eu2, eu3, eu4⟩ := wrap_mod x
      have f0 := (HS.out.b0.at_ (k := 0) rfl).1
      have f1 := (HS.out.b0.at_ (k := 1) rfl).1
      generalize x % 4294967296 = kx at *
      have HK := Lib.hid eu3
      clear hx hbl
      by_cases hin : kx ∈ t.inord
      · have hP := Lib.hid (Del_ok (c := c) HS.out.mem HS.out.good hin)
        have HN := Lib.hid hin
        clear hin eu3
        go_wp2_with fail
        with_reducible refine hP.out.mono ?_
        rintro e w3 ⟨mm, r', g, l', t', rfl, hm3, hg3, hk3, hb3, hge3⟩
        have hmm : t'.inord.length = mm := by rw [T.inord_len, hg3.2.1, hm3.1]
        have HM3 := Lib.hid (HS.out.keys.gr (hb3.al (.cells #[.int .i64 r', .slice (some ⟨g, 0, none⟩) mm mm] 24)))
        obtain ⟨p, hp, hpl⟩ := rPlace_any (c := d) HM3.out (by omega) kx
        have hpn : ¬ p < 0 := fun h => hp.1 h HN.out
        have kP := Lib.hid hpl
        have G3 := Lib.hid hb3
        clear hpl hp hb3 hP
        go_wp2_with fail
        with_reducible refine kP.out.mono ?_
        rintro e w4 ⟨rfl, rfl⟩
        go_wp2_with fail
        have hti : t'.inord = t.inord.filter (fun y => y != kx) := rising_ext hg3.2.2.2.1.rising (HS.out.good.2.2.2.1.rising.filter _) fun y => by
          rw [hk3 y, List.mem_filter]
          simp only [bne_iff_ne, ne_eq]
          exact And.comm
        have g9 := Lib.hid (G3.out.al (.cells #[.int .i64 r', .slice (some ⟨g, 0, none⟩) mm mm] 24))
        have B9 := Blk.new w3 #[.int .i64 r', .slice (some ⟨g, 0, none⟩) mm mm] 24
        have BT := HS.out.b0.gr g9.out
        have h9 : ta ≠ w3.heap.size := by have := (HS.out.b0.gr G3.out).lt; omega
        have M9 := Lib.hid (hm3.gr ((Gr.refl w3).al (.cells #[.int .i64 r', .slice (some ⟨g, 0, none⟩) mm mm] 24)))
        have HG3 := Lib.hid hg3
        have HTI := Lib.hid hti
        have hkB : B64 kx := by have := HK.out; unfold IsKey at this; unfold B64; omega
        have hgt : ta ≠ g := by have := HS.out.b0.lt; omega
        have hW := rWithout_is (c := d) (HM3.out.gr (Gr.refl _).dr) (by omega) hkB rfl
        rw [← hti, hmm] at hW
        have kW := Lib.hid hW
        clear f0 f1 cx hm3 hg3 hk3 hti kP hpn eu eu1 eu2 eu4 hW hmm
        generalize w3.heap.size = s9 at *
        generalize w3.alloc (.cells #[.int .i64 r', .slice (some ⟨g, 0, none⟩) mm mm] 24) = W9 at *
        have f0 := (B9.at_ (k := 0) rfl).1
        have f1 := (B9.at_ (k := 1) rfl).1
        have BTd : Blk W9.drew ta #[.int .i64 r, .slice A n c] 24 := BT
        have B9d : Blk W9.drew s9 #[.int .i64 r', .slice (some ⟨g, 0, none⟩) mm mm] 24 := B9
        go_region_held3 (fun w' => w'.cell? ⟨s9, 0, none⟩ = some (.int .i64 r') ∧ w'.cell? ⟨s9, 1, none⟩ = some (.slice (some ⟨g, 0, none⟩) mm mm))
          (first | exact ⟨f0, f1⟩ | exact ⟨s0, s1⟩ | exact ⟨((B9d.gr hb5).at_ (k := 0) rfl).1, ((B9d.gr hb5).at_ (k := 1) rfl).1⟩)
          (first | (go_at_call 26; (with_reducible refine kW.out.mono ?_); rintro e w5 ⟨C5, k5, rfl, own5, hb5⟩; have p0 := (BTd.gr hb5).at_ (k := 0) rfl; have p1 := (BTd.gr hb5).at_ (k := 1) rfl; obtain ⟨p0, z0⟩ := p0; obtain ⟨p1, z1⟩ := p1; have B5 := (((B9d.gr hb5).st (p := ⟨ta, 0, none⟩) h9 (.int .i64 r')).st (p := ⟨ta, 1, none⟩) h9 (.slice (some ⟨g, 0, none⟩) mm mm)); have s0 := (B5.at_ (k := 0) rfl).1; have s1 := (B5.at_ (k := 1) rfl).1))
        have hto : ta < W9.heap.size := BT.lt
        have O5 := (own5.st (p := ⟨ta, 0, none⟩) hto (.int .i64 r')).st (p := ⟨ta, 1, none⟩) hto (.slice (some ⟨g, 0, none⟩) mm mm)
        have BN := ((BTd.gr hb5).set 0 (.int .i64 r')).set 1 (.slice (some ⟨g, 0, none⟩) mm mm)
        have GN := ((((HS.out.gr.trans g9.out).dr.trans hb5).st (p := ⟨ta, 0, none⟩) (by show w.heap.size ≤ ta; omega) (.int .i64 r')).st (p := ⟨ta, 1, none⟩) (by show w.heap.size ≤ ta; omega) (.slice (some ⟨g, 0, none⟩) mm mm))
        have MN : NMem ((w5.setCell ⟨ta, 0, none⟩ (.int .i64 r')).setCell ⟨ta, 1, none⟩ (.slice (some ⟨g, 0, none⟩) mm mm)) (some ⟨g, 0, none⟩) mm l' :=
          ((M9.out.gr (Gr.refl _).dr).gr hb5).stays (by simp [World.setCell]) fun k hk _ => by
            simp only [Option.map_some, Option.some.injEq] at hk
            subst hk
            simp [World.setCell, Array.getElem?_modify, hgt]
        have HN2 := Lib.hid (show SS w ((w5.setCell ⟨ta, 0, none⟩ (.int .i64 r')).setCell ⟨ta, 1, none⟩ (.slice (some ⟨g, 0, none⟩) mm mm)) ta r' (some ⟨g, 0, none⟩) mm mm l' t' C5 from
          ⟨GN, by simpa using BN, MN, HG3.out, O5.mem⟩)
        clear GN BN MN O5 own5 hb5 p0 p1 z0 z1 B5 s0 s1 f0 f1 BT BTd B9 B9d
        generalize (w5.setCell _ _).setCell _ _ = Wn at *
        go_wp2_with fail
        go_roundw
        case rel => exact ⟨k + 1, r', _, mm, mm, l', t', C5, k5, by omega, by go_num, rfl, HN2⟩
        case measure => simp [intOf]; omega
      · have hP := Lib.hid (Del_no (c := c) HS.out.mem (x := kx) (r := r) (e := 4) (.inr ⟨HK.out, t, HS.out.good, hin, rfl⟩))
        have HN := Lib.hid hin
        clear hin eu3
        go_wp2_with fail
        with_reducible refine hP.out.mono ?_
        rintro e w3 ⟨rfl, hb3⟩
        have HM3 := Lib.hid (HS.out.keys.gr (hb3.al (.cells #[.int .i64 0, .slice none 0 0] 24)))
        obtain ⟨p, hp, hpl⟩ := rPlace_any (c := d) HM3.out (by omega) kx
        have hpn : p < 0 := hp.2 HN.out
        have kP := Lib.hid hpl
        have G3 := Lib.hid hb3
        clear hpl hp hb3 hP
        go_wp2_with fail
        with_reducible refine kP.out.mono ?_
        rintro e w4 ⟨rfl, rfl⟩
        go_wp2_with fail
        go_roundw
        case rel => exact ⟨k + 1, r, A, n, c, l, t, C, d, by omega, by go_num, rfl, Lib.hid (HS.out.gr' (G3.out.al (.cells #[.int .i64 0, .slice none 0 0] 24)))⟩
        case measure => simp [intOf]; omega
    · obtain rfl : k = m := by omega
      obtain ⟨ta1, tb1, s, ht1, ht2, ht3, hs0, hs1⟩ := turned u
      obtain ⟨i0, hi0, hz0, hz1, hz2⟩ := info_parts infoInt
      have HZ := Lib.hid hz0
      have HZ1 := Lib.hid hz1
      have HZ2 := Lib.hid hz2
      have HI0 := Lib.hid hi0
      clear hz0 hz1 hz2 hi0
      rename World => wo
      go_wp2_with fail
      go_loopw [14, 73] (fun K i w3 => ∃ (j : Nat) (Ct : Option Addr) (dt : Nat) (S : List Int), j ≤ n ∧ i = .int .i64 (j : Int) ∧ K = .slice Ct j dt ∧ Hid (IOwn wo.heap.size w3 Ct j dt S) ∧ Hid (Gr wo w3) ∧ Hid (∀ i, i < j → S[i]? = t.inord[(i + s.toNat) % n]?)) (fun _ i _ => n - (intOf i).toNat)
      case atStart => exact ⟨0, none, 0, [], Nat.zero_le _, rfl, rfl, Lib.hid OMem.nil_, Lib.hid (Gr.refl _), Lib.hid (fun i h => absurd h (by omega))⟩
      case round =>
        obtain ⟨j, Ct, dt, S, hj, rfl, rfl, HO, HR, HJ⟩ := hrel
        by_cases hjn : j < n
        · obtain ⟨q, p, hq, hqp, hpn, hpe⟩ := placed hjn hn64 hs0 hs1
          obtain ⟨b, off, x, rfl, hbl, hx, hix, cx⟩ := (HS.out.keys.gr HR.out).at_ hpn
          have e0 : ¬ (n : Int) = 0 := by omega
          have e1 : (0 : Int) ≤ (p : Int) := by omega
          have e2 : (p : Int) < (n : Int) := by omega
          have HP := Lib.hid (show ∀ i, i < j + 1 → (S ++ [x])[i]? = t.inord[(i + s.toNat) % n]? from fun i hi => by
            have hSl := HO.out.mem.1
            by_cases h : i < j
            · rw [List.getElem?_append_left (by omega)]; exact HJ.out i h
            · obtain rfl : i = j := by omega
              rw [List.getElem?_append_right (by omega), hSl, Nat.sub_self, ← hpe, hx]; rfl)
          clear hx hpe hpn hbl
          go_wp2_with (at_builtin; refine Mark.stop ?_)
          refine Mark.go ?_
          refine wpList_append_omem _ (Value.int .i64) B64 rfl (.tmp 76) (.tmp 89) 29 rfl (fun _ => rfl) wo.heap.size 3 i0 (.int .i64 0) 8 Try.underlying29 HI0.out HZ.out HZ1.out HZ2.out rfl Ct j dt _ rfl (HO.out.gr ((Gr.refl _).al _)) _ 1 1 [x] rfl (emem_one _ x hix _) (by unfold maxLen; omega) (by omega) (HR.out.al _).size ?_
          intro C3 k3 w4 own4 gb4
          have G4 := Lib.hid ((HR.out.al (.cells #[.int .i64 x] 3)).gb gb4 (fun k hk => (HO.out.lt k hk).1))
          clear gb4
          go_wp2_with fail
          go_roundw
          case rel => exact ⟨j + 1, C3, k3, _, by omega, by go_num, rfl, Lib.hid own4, G4, HP⟩
          case measure => simp [intOf]; omega
        · obtain rfl : j = n := by omega
          have own := HO.out
          have kM2 := Lib.hid (made_is own.mem own.le (by omega))
          have hSl := own.mem.1
          have HSS := Lib.hid (HS.out.gr' HR.out)
          have HSK := Lib.hid (show ∀ y, (∃ x ∈ S.take 64, x % 4294967296 = y) ↔ y ∈ t.inord from fun y => by
            rw [List.take_of_length_le (by omega)]
            have hkl := HS.out.keys.1
            constructor
            · rintro ⟨x, hx, rfl⟩
              obtain ⟨i, hi⟩ := List.mem_iff_getElem?.1 hx
              have hi' : i < j := by rw [← hSl]; exact (List.getElem?_eq_some_iff.1 hi).1
              rw [HJ.out i hi'] at hi
              have hm := List.mem_of_getElem? hi
              have hk := HS.out.good.isKey hm
              unfold IsKey at hk
              rw [show x % 4294967296 = x from by omega]
              exact hm
            · intro hy
              obtain ⟨i, hi⟩ := List.mem_iff_getElem?.1 hy
              have hij : i < j := by rw [← hkl]; exact (List.getElem?_eq_some_iff.1 hi).1
              obtain ⟨i2, h1, h2⟩ := all_read (s := s.toNat) hij
              have hk := HS.out.good.isKey hy
              unfold IsKey at hk
              refine ⟨y, List.mem_iff_getElem?.2 ⟨i2, by rw [HJ.out i2 h1, h2]; exact hi⟩, by omega⟩)
          clear own hSl HJ HO
          go_wp2_with fail
          with_reducible refine kM2.out.mono ?_
          rintro e w4 ⟨rb, Ab, nb, cb, lb, tb, Cb, db, rfl, hmb, hgb, _, hb4, hallb⟩
          have h22 : tb.inord = t.inord := rising_ext hgb.2.2.2.1.rising HSS.out.good.2.2.2.1.rising fun y => by rw [hallb y, HSK.out y]
          have gB := (Gr.refl w4).al (.cells #[.int .i64 rb, .slice Ab nb cb] 24)
          have HS4 := Lib.hid ((HSS.out.gr' hb4).gr' gB)
          have HBB := Lib.hid (Blk.new w4 #[.int .i64 rb, .slice Ab nb cb] 24)
          have HMB := Lib.hid (hmb.gr gB)
          have HGB := Lib.hid hgb
          have H22 := Lib.hid h22
          have f0 := (HS4.out.b0.at_ (k := 0) rfl).1
          have f1 := (HS4.out.b0.at_ (k := 1) rfl).1
          have hlk : t.inord.length = j := HS4.out.keys.1
          have kK := Lib.hid (Keys_is (c := c) HS4.out.mem (r := r) (.inr ⟨t, HS4.out.good, rfl, rfl⟩))
          rw [hlk] at kK
          clear hmb hgb hb4 hallb h22 gB kM2
          go_wp2_with fail
          with_reducible refine kK.out.mono ?_
          rintro e w5 ⟨C5, k5, rfl, own5, hb5⟩
          have kS := Lib.hid (rSame_is (c := k5) (d := d) own5.mem (HS4.out.keys.gr hb5) (by omega) (by omega) (v := true) ⟨fun _ => rfl, fun _ => rfl⟩)
          have HS5 := Lib.hid (HS4.out.gr' hb5)
          have HB5 := Lib.hid hb5
          clear own5 hb5 kK f0 f1
          go_wp2_with fail
          with_reducible refine kS.out.mono ?_
          rintro e w6 ⟨rfl, hb6⟩
          have f0 := ((HS5.out.gr' hb6).b0.at_ (k := 0) rfl).1
          have f1 := ((HS5.out.gr' hb6).b0.at_ (k := 1) rfl).1
          have kR := Lib.hid (Right_is (c := c) (HS5.out.gr' hb6).mem (r := r) (v := true) ⟨fun _ => ⟨t, HS4.out.good⟩, fun _ => rfl⟩)
          have HB6 := Lib.hid hb6
          go_wp2_with fail
          with_reducible refine kR.out.mono ?_
          rintro e w7 ⟨rfl, hb7⟩
          have g7 := (HB5.out.trans HB6.out).trans hb7
          have HS7 := Lib.hid (HS4.out.gr' g7)
          have HM7 := Lib.hid (HMB.out.gr g7)
          have HB7 := Lib.hid (HBB.out.gr g7)
          clear f0 f1 hb6 hb7 g7 kR kS HS5 HB5 HB6 HMB HBB HS4
          go_wp2_with fail
          go_loopw [122] (fun i w3 => ∃ (k : Nat), k ≤ j ∧ i = .int .i64 (k : Int) ∧ Hid (Gr w7 w3)) (fun i _ => j - (intOf i).toNat)
          case atStart => exact ⟨0, Nat.zero_le _, rfl, Lib.hid (Gr.refl _)⟩
          case round =>
            obtain ⟨k, hk, rfl, HZR⟩ := hrel
            by_cases hkl : k < j
            · obtain ⟨bb, off, y, rfl, hbl, hy, hiy, cy⟩ := (HS7.out.keys.gr HZR.out).at_ hkl
              have hyt := List.mem_of_getElem? hy
              have hyk := HS7.out.good.isKey hyt
              obtain ⟨d0, hd0⟩ : ∃ d0 : Int, (dpt t y : Int) = d0 := ⟨_, rfl⟩
              have hdb : (dpt tb y : Int) = d0 := by rw [← hd0, HGB.out.depth HS7.out.good H22.out (by rw [H22.out]; exact hyt)]
              have hdl := dep_lt hyt
              rw [← dpt_dep HS7.out.good.2.2.2.1 HS7.out.good.2.2.2.2 hyt, hlk] at hdl
              have hd1 : ¬ d0 < 0 := by omega
              have hd2 : ¬ (j : Int) ≤ d0 := by omega
              have kF0 := Lib.hid (Find_is (c := c) (HS7.out.mem.gr HZR.out) (x := y) (r := r) (.inr (.inr ⟨hyk, t, HS7.out.good, .inr ⟨hyt, hd0.symm, rfl⟩⟩)))
              have kF1 := Lib.hid (fun W g => Find_is (c := cb) (HM7.out.gr (w' := W) g) (x := y) (r := rb) (.inr (.inr ⟨hyk, tb, HGB.out, .inr ⟨by rw [H22.out]; exact hyt, hdb.symm, rfl⟩⟩)))
              have f0 := ((HS7.out.gr' HZR.out).b0.at_ (k := 0) rfl).1
              have f1 := ((HS7.out.gr' HZR.out).b0.at_ (k := 1) rfl).1
              clear hy hyt hyk hd0 hdb hdl hbl
              go_wp2_with fail
              with_reducible refine kF0.out.mono ?_
              rintro e w8 ⟨rfl, hb8⟩
              have G8 := Lib.hid (HZR.out.trans hb8)
              have f2 := ((HB7.out.gr G8.out).at_ (k := 0) rfl).1
              have f3 := ((HB7.out.gr G8.out).at_ (k := 1) rfl).1
              clear f0 f1 hb8 kF0
              go_wp2_with fail
              with_reducible refine (kF1.out _ G8.out).mono ?_
              rintro e w9 ⟨rfl, hb9⟩
              have G9 := Lib.hid (G8.out.trans hb9)
              clear f2 f3 hb9 kF1
              go_wp2_with fail
              go_roundw
              case rel => exact ⟨k + 1, by omega, by go_num, G9⟩
              case measure => simp [intOf]; omega
            · obtain rfl : k = j := by omega
              have GE := Lib.hid (HS7.out.gr.trans HZR.out)
              go_wp2_with fail
              go_ret
              exact ⟨rfl, GE.out⟩
end
set_option maxRecDepth 100000 in
theorem TreapShape_lifted (os : Os) (started : os.Started) (H : Type) (enc : TypeId × Value → H) :
    ReturnsInHanded {} Try.checked os 5 .any (Rows.treapShapeSpec.pre6 enc Try.prog Try.f5 Rows.treapShapeRow.domain false) (Rows.treapShapeSpec.post enc Try.prog Try.f5 false true false false) := by
  refine returnsInHanded_of_change (C := Try.checked) own started (by kernel_rfl) Try.func5
    (ChangeSpec.witness6 (enc := enc) (C := Try.checked) false ⟨#[], #[.slice none 0 0, .slice none 0 0, .int .i64 0], []⟩ 8 (by kernel_rfl) (by kernel_rfl) (by kernel_rfl) (by kernel_rfl)) ?_
  intro W base args ds gs before hval0 hW hcnd _
  have hval : ∀ (j : Nat) t v, Try.f5.params[j]? = some t → args[j]? = some v → Value.okWide Try.prog W .any base t v := hval0
  have hW' := hW
  obtain ⟨p, q, hA0, hV, rfl, hfz, hnd⟩ := hW
  have hA : DataW.TrodAll enc Try.prog W 0 (fun _ => true) true Try.f5.params.toList args.toList ds p := hA0
  rw [Try.params5] at hA hval
  have hK := hA
  obtain ⟨v0, vs0, d0, ds0, p0, q0, hargs, rfl, hp, h0, r0⟩ := trodAll_cons hA
  obtain ⟨v1, vs1, d1, ds1, p1, q1, rfl, rfl, rfl, h1, r1⟩ := trodAll_cons r0
  obtain ⟨v2, vs2, d2, ds2, p2, q2, rfl, rfl, rfl, h2, r2⟩ := trodAll_cons r1
  obtain ⟨rfl, rfl, rfl⟩ := trodAll_nil r2
  obtain rfl : args = #[v0, v1, v2] := by cases args; simp_all
  obtain ⟨rfl, rfl⟩ := trodVars_none hV
  obtain ⟨A0, n0, c0, l0, rfl, hc0, hn0, hm0⟩ := open_ints (hval 0 29 v0 rfl rfl) h0
  obtain ⟨A1, n1, c1, l1, rfl, hc1, hn1, hm1⟩ := open_ints (hval 1 29 v1 rfl rfl) h1
  obtain ⟨a2, rfl, rfl, rfl, w2⟩ := open_int Try.underlying3 (hval 2 3 v2 rfl rfl) h2
  clear hA0 hval0
  refine (TreapShape_walk W A0 n0 c0 l0 hc0 hn0 hm0 A1 n1 c1 l1 hc1 hn1 hm1 a2 (wfb w2)).mono fun e W' ⟨he, hg⟩ => ?_
  subst he
  exact ⟨_, rfl, post_below (pa := p) (pv := []) hW' (fun _ _ _ => (trodAll_cons_mk (shut_bool Try.underlying4 _) trodAll_mk0))
    (fun sp hs => trodAll_stays laidOut hg sp (by kernel_rfl) hK (fun x hx => hW'.lt x (List.mem_append_left _ hx)) (fun x hx => hs x (List.mem_append_left _ hx))) (fun _ _ => rfl) rfl
    hg (ok_one (by kernel_rfl) rfl (okWide_bool_mk Try.underlying4 _))⟩

theorem TreapShape_over : Rows.treapShapeRow.holds Try.pinned (OpenSpec.ofChange Rows.treapShapeSpec) :=
  OpenClaim.holds_of_wide 5 Try.f5 rfl rfl rfl rfl rfl rfl rfl ⟨rfl, rfl, rfl, rfl, rfl⟩ rfl rfl rfl rfl rfl (by kernel_rfl) Try.func5 (by kernel_rfl)
    (of_decide_eq_true (by kernel_rfl)) (by unfold Func.isWrapper; first | (rw [if_pos (by decide +kernel)]; kernel_rfl) | (rw [if_neg (by decide +kernel)]; exact ⟨rfl, rfl⟩))
    (fun os started H enc _ => TreapShape_lifted os started H enc)

/-- The statement. -/
theorem TreapShape_holds : Rows.TreapShapeSaid :=
  TreapShape_over
#print axioms TreapShape_holds
end Go.Proofs.Ytpblonfcdnephaa
