/-
  Package treap's laws: few, empty, made, alive.
-/
import Derived.Test.YtpblonfcdnephaaTreapPut
import Derived.Test.YtpblonfcdnephaaTreapRefA
namespace Go.Proofs.Ytpblonfcdnephaa
open Go.ChangeShapes Go.WideShapes Go.ChangeAt Go.RowKit
set_option linter.unusedVariables false
set_option linter.unusedSimpArgs false

set_option maxHeartbeats 1000000 in
theorem few_ok (r : Int) (A : Option Addr) (n c m : Nat) (hc : n ≤ c) (hn : c ≤ 9223372036854775807) (hmn : (70 < n ∧ m = 70) ∨ (n ≤ 70 ∧ m = n)) (w : World) :
    Calls Try.prog 8 #[.agg #[.int .i64 r, .slice A n c]] w fun e w' => e = .returned (.agg #[.int .i64 r, .slice A m c]) ∧ Gr w w' := by
  rcases hmn with ⟨h, rfl⟩ | ⟨h, rfl⟩
  · go_enter Try.func8, Try.ntmps8
    go_wp2_with fail
    exact bodyPost_ret (v := .agg #[.int .i64 r, .slice A 70 c]) (by simp [results, Try.results8, go_sem, show min (n : Int) 70 = 70 from by omega]) rfl ⟨rfl, ((Gr.refl w).al _).al _⟩
  · go_enter Try.func8, Try.ntmps8
    go_wp2_with fail
    exact bodyPost_ret (v := .agg #[.int .i64 r, .slice A m c]) (by simp [results, Try.results8, go_sem, show min (m : Int) 70 = (m : Int) from by omega]) rfl ⟨rfl, ((Gr.refl w).al _).al _⟩
theorem empty_ok (w : World) : Calls Try.prog 25 #[.agg #[.int .i64 0, .slice none 0 0]] w fun e w' => e = .returned (.bool true) ∧ Gr w w' := by
  go_enter Try.func25, Try.ntmps25
  go_wp2_with fail
  go_ret
  exact ⟨rfl, (Gr.refl w).al _⟩

/-- What made answers: the tree of these keys, and the keys. -/
def GotM (w : World) (L : List Int) (e : Ending) (w' : World) : Prop :=
  ∃ r A n c l t C d, e = .returned (.tuple #[.agg #[.int .i64 r, .slice A n c], .slice C n d, .bool true]) ∧ NMem w' A n l ∧ Good l r t ∧ IMem w' C n t.inord ∧ Gr w w' ∧ ∀ y, y ∈ t.inord ↔ ∃ x ∈ L.take 64, x % 4294967296 = y
/-- A round of made. -/
structure MS (w wr : World) (L : List Int) (tb k : Nat) (r : Int) (A : Option Addr) (n c : Nat) (l : List Nd) (t : T) (C : Option Addr) : Prop where
  gr : Gr w wr
  b0 : Blk wr tb #[.int .i64 r, .slice A n c] 24
  mem : NMem wr A n l
  good : Good l r t
  keys : IMem wr C n t.inord
  le : n ≤ k
  far : ∀ j, A.map (·.block) = some j ∨ C.map (·.block) = some j → w.heap.size < j
  all : ∀ y, y ∈ t.inord ↔ ∃ x ∈ L.take k, x % 4294967296 = y
section
variable {w : World} {A0 : Option Addr} {n0 c0 m : Nat} {L : List Int}
theorem wrap_mod (x : Int) : ∃ u, IntKind.u64.wrap x = u ∧ u.tmod 4294967296 = x % 4294967296 ∧ IntKind.i64.wrap (x % 4294967296) = x % 4294967296 ∧ IsKey (x % 4294967296) ∧ IntKind.u64.wrap (x % 4294967296) = x % 4294967296 := by
  refine ⟨_, rfl, ?_, wrap_id (by omega) (by omega), ⟨by omega, by omega⟩, (wrap_u64 _).trans (by omega)⟩
  rw [wrap_u64, Int.tmod_eq_emod_of_nonneg (by omega)]
  omega
set_option maxHeartbeats 8000000 in
theorem made_is (hm : IMem w A0 n0 L) (hc : n0 ≤ c0) (hn : n0 ≤ 9223372036854775807) :
    Calls Try.prog 28 #[.slice A0 n0 c0] w (GotM w L) := by
  obtain ⟨m, hmn⟩ : ∃ m, (64 < n0 ∧ m = 64) ∨ (n0 ≤ 64 ∧ m = n0) := by
    by_cases h : 64 < n0
    · exact ⟨64, .inl ⟨h, rfl⟩⟩
    · exact ⟨n0, .inr ⟨by omega, rfl⟩⟩
  have hm64 : m ≤ 64 := by omega
  have hmn0 : m ≤ n0 := by omega
  have hmL : L.take m = L.take 64 := by
    rcases hmn with ⟨h, rfl⟩ | ⟨h, rfl⟩
    · rfl
    · rw [List.take_of_length_le (by rw [hm.1]; omega), List.take_of_length_le (by rw [hm.1]; omega)]
  have hmin : min (n0 : Int) 64 = (m : Int) := by omega
  have hmax : max (m : Int) 0 = (m : Int) := by omega
  have HML := Lib.hid hmL
  have HM := Lib.hid hm
  have g0 := (Gr.refl w).al (.cells #[.int .i64 0, .slice none 0 0] 24)
  have B0 := Blk.new w #[.int .i64 0, .slice none 0 0] 24
  have hN := fun W => New_is W
  have KN := Lib.hid hN
  have hm0 : (0 : Int) ≤ (m : Int) := by omega
  have hm1 : (m : Int) ≤ (c0 : Int) := by omega
  clear hmL hm hN hmn
  go_enter Try.func28, Try.ntmps28
  go_wp2_with fail
  with_reducible refine (KN.out _).mono ?_
  rintro e w1 ⟨rfl, hb1⟩
  have HBR := Lib.hid (B0.gr hb1)
  have G1 := Lib.hid (g0.trans hb1)
  clear hb1 B0 g0 KN
  go_wp2_with fail
  have S0 : MS w (w1.alloc (.cells #[.int .i64 (-1), .slice none 0 0] 24)) L w1.heap.size 0 (-1) none 0 0 [] .nil none :=
    ⟨G1.out.al _, Blk.new _ _ _, NMem.nil_, ⟨rfl, rfl, by simp, trivial, trivial⟩, EMem.nil_, Nat.le_refl _, fun j h => (by rcases h with h | h <;> cases h), fun y => by simp [T.inord]⟩
  have HS0 := Lib.hid S0
  have hts : w.heap.size < w1.heap.size := HBR.out.lt
  have HB2 := Lib.hid (HBR.out.al (.cells #[.int .i64 (-1), .slice none 0 0] 24))
  clear S0 HBR
  generalize w1.heap.size = tb at *
  generalize w1.alloc (.cells #[.int .i64 (-1), .slice none 0 0] 24) = w2 at *
  go_loopw [6, 18] (fun K i wr => ∃ (k : Nat) (r : Int) (A : Option Addr) (n c : Nat) (l : List Nd) (t : T) (C : Option Addr) (d : Nat), k ≤ m ∧ i = .int .i64 (k : Int) ∧ K = .slice C n d ∧ Hid (MS w wr L tb k r A n c l t C) ∧ Hid (Blk wr w.heap.size #[.int .i64 0, .slice none 0 0] 24)) (fun _ i _ => m - (intOf i).toNat)
  case atStart => exact ⟨0, _, _, _, _, _, _, _, 0, Nat.zero_le _, rfl, rfl, HS0, HB2⟩
  case round =>
    clear HS0 HB2
    obtain ⟨k, r, A, n, c, l, t, C, d, hk, rfl, rfl, HS, HB⟩ := hrel
    by_cases hlt : k < m
    · obtain ⟨b, off, x, rfl, hbl, hx, hix, cx⟩ := (HM.out.gr HS.out.gr).at_ (show k < n0 from by omega)
      obtain ⟨u, eu, eu1, eu2, eu3, eu4⟩ := wrap_mod x
      have f0 := (HS.out.b0.at_ (k := 0) rfl).1
      have f1 := (HS.out.b0.at_ (k := 1) rfl).1
      have hall : ∀ y, (y = x % 4294967296 ∨ y ∈ t.inord) ↔ ∃ z ∈ L.take (k + 1), z % 4294967296 = y := fun y => by
        rw [take_more hx, HS.out.all y]
        simp only [List.mem_append, List.mem_singleton]
        constructor
        · rintro (rfl | ⟨z, h1, h2⟩)
          · exact ⟨x, .inr rfl, rfl⟩
          · exact ⟨z, .inl h1, h2⟩
        · rintro ⟨z, h1 | rfl, h2⟩
          · exact .inr ⟨z, h1, h2⟩
          · exact .inl h2.symm
      have HA := Lib.hid hall
      have hnl := HS.out.mem.1
      have hn64 : n < 64 := by have := HS.out.le; omega
      generalize x % 4294967296 = kx at *
      have HK := Lib.hid eu3
      clear hx hall hbl
      by_cases hin : kx ∈ t.inord
      · have hP := Lib.hid (Put_no (c := c) HS.out.mem (.inr ⟨HK.out, t, HS.out.good, .inl ⟨hin, rfl⟩⟩))
        have HN := Lib.hid hin
        clear hin eu3
        go_wp2_with fail
        with_reducible refine hP.out.mono ?_
        rintro e w3 ⟨rfl, hb3⟩
        have HM3 := Lib.hid (HS.out.keys.gr (hb3.al (.cells #[.int .i64 0, .slice none 0 0] 24)))
        obtain ⟨p, hp, hpl⟩ := rPlace_any (c := d) HM3.out (by omega) kx
        have hp0 : 0 ≤ p := by
          apply Classical.byContradiction
          intro h
          exact hp.1 (by omega) HN.out
        have kP := Lib.hid hpl
        have G3 := Lib.hid hb3
        clear hpl hp hb3 hP
        go_wp2_with fail
        with_reducible refine kP.out.mono ?_
        rintro e w4 ⟨rfl, rfl⟩
        go_wp2_with fail
        go_roundw
        case rel =>
          have g := G3.out.al (.cells #[.int .i64 0, .slice none 0 0] 24)
          refine ⟨k + 1, r, A, n, c, l, t, C, d, by omega, by go_num, rfl, Lib.hid ⟨HS.out.gr.trans g, HS.out.b0.gr g, HS.out.mem.gr g, HS.out.good, HS.out.keys.gr g, by have := HS.out.le; omega, HS.out.far, fun y => ?_⟩, Lib.hid (HB.out.gr g)⟩
          rw [← HA.out y]
          refine ⟨fun h => .inr h, fun h => ?_⟩
          rcases h with rfl | h
          · exact HN.out
          · exact h
        case measure => simp [intOf]; omega
      · have hP := Lib.hid (Put_ok (c := c) HS.out.mem HS.out.good HK.out hin (by omega))
        have HN := Lib.hid hin
        clear hin eu3
        go_wp2_with fail
        with_reducible refine hP.out.mono ?_
        rintro e w3 ⟨r', g, l', t', rfl, hm3, hg3, hk3, hb3, hge3⟩
        have HM3 := Lib.hid (HS.out.keys.gr (hb3.al (.cells #[.int .i64 r', .slice (some ⟨g, 0, none⟩) (n + 1) (n + 1)] 24)))
        obtain ⟨p, hp, hpl⟩ := rPlace_any (c := d) HM3.out (by omega) kx
        have hp0 : p < 0 := hp.2 HN.out
        have kP := Lib.hid hpl
        have G3 := Lib.hid hb3
        clear hpl hp hb3 hP
        go_wp2_with fail
        with_reducible refine kP.out.mono ?_
        rintro e w4 ⟨rfl, rfl⟩
        go_wp2_with fail
        have hti : t'.inord = wi kx t.inord := rising_ext hg3.2.2.2.1.rising (wi_rising HS.out.good.2.2.2.1.rising HN.out) fun y => by rw [hk3 y, wi_mem]
        have g9 := Lib.hid (G3.out.al (.cells #[.int .i64 r', .slice (some ⟨g, 0, none⟩) (n + 1) (n + 1)] 24))
        have B9 := Blk.new w3 #[.int .i64 r', .slice (some ⟨g, 0, none⟩) (n + 1) (n + 1)] 24
        have BT := HS.out.b0.gr g9.out
        have h9 : tb ≠ w3.heap.size := by have := (HS.out.b0.gr G3.out).lt; omega
        have M9 := Lib.hid (hm3.gr ((Gr.refl w3).al (.cells #[.int .i64 r', .slice (some ⟨g, 0, none⟩) (n + 1) (n + 1)] 24)))
        have HG3 := Lib.hid hg3
        have HTI := Lib.hid hti
        have hkB : B64 kx := by have := HK.out; unfold IsKey at this; unfold B64; omega
        have hgt : tb ≠ g := by have := HS.out.b0.lt; omega
        have hwr : w.heap.size < tb := hts
        have hgw : w.heap.size < g := by have := HS.out.b0.lt; omega
        have kW := Lib.hid (rWith_is (c := d) (HM3.out.gr (Gr.refl _).dr) (by omega) hkB rfl)
        clear f0 f1 cx hm3 hg3 hk3 hti kP hp0 eu eu1 eu2 eu4
        generalize w3.heap.size = s9 at *
        generalize w3.alloc (.cells #[.int .i64 r', .slice (some ⟨g, 0, none⟩) (n + 1) (n + 1)] 24) = W9 at *
        have f0 := (B9.at_ (k := 0) rfl).1
        have f1 := (B9.at_ (k := 1) rfl).1
        have BTd : Blk W9.drew tb #[.int .i64 r, .slice A n c] 24 := BT
        have B9d : Blk W9.drew s9 #[.int .i64 r', .slice (some ⟨g, 0, none⟩) (n + 1) (n + 1)] 24 := B9
        go_region_held3 (fun w' => w'.cell? ⟨s9, 0, none⟩ = some (.int .i64 r') ∧ w'.cell? ⟨s9, 1, none⟩ = some (.slice (some ⟨g, 0, none⟩) (n + 1) (n + 1)))
          (first | exact ⟨f0, f1⟩ | exact ⟨s0, s1⟩ | exact ⟨((B9d.gr hb5).at_ (k := 0) rfl).1, ((B9d.gr hb5).at_ (k := 1) rfl).1⟩)
          (first | (go_at_call 27; (with_reducible refine kW.out.mono ?_); rintro e w5 ⟨C5, k5, rfl, own5, hb5⟩; have p0 := (BTd.gr hb5).at_ (k := 0) rfl; have p1 := (BTd.gr hb5).at_ (k := 1) rfl; obtain ⟨p0, z0⟩ := p0; obtain ⟨p1, z1⟩ := p1; have B5 := (((B9d.gr hb5).st (p := ⟨tb, 0, none⟩) h9 (.int .i64 r')).st (p := ⟨tb, 1, none⟩) h9 (.slice (some ⟨g, 0, none⟩) (n + 1) (n + 1))); have s0 := (B5.at_ (k := 0) rfl).1; have s1 := (B5.at_ (k := 1) rfl).1))
        have hto : tb < W9.heap.size := BT.lt
        have hw9 : w.heap.size < W9.heap.size := by omega
        have O5 := (own5.st (p := ⟨tb, 0, none⟩) hto (.int .i64 r')).st (p := ⟨tb, 1, none⟩) hto (.slice (some ⟨g, 0, none⟩) (n + 1) (n + 1))
        have BN := ((BTd.gr hb5).set 0 (.int .i64 r')).set 1 (.slice (some ⟨g, 0, none⟩) (n + 1) (n + 1))
        have BR := (((HB.out.gr g9.out).gr (Gr.refl _).dr).gr hb5).st (p := ⟨tb, 0, none⟩) (by show tb ≠ w.heap.size; omega) (.int .i64 r') |>.st (p := ⟨tb, 1, none⟩) (by show tb ≠ w.heap.size; omega) (.slice (some ⟨g, 0, none⟩) (n + 1) (n + 1))
        have GN := ((((HS.out.gr.trans g9.out).dr.trans hb5).st (p := ⟨tb, 0, none⟩) (by show w.heap.size ≤ tb; omega) (.int .i64 r')).st (p := ⟨tb, 1, none⟩) (by show w.heap.size ≤ tb; omega) (.slice (some ⟨g, 0, none⟩) (n + 1) (n + 1)))
        have MN : NMem ((w5.setCell ⟨tb, 0, none⟩ (.int .i64 r')).setCell ⟨tb, 1, none⟩ (.slice (some ⟨g, 0, none⟩) (n + 1) (n + 1))) (some ⟨g, 0, none⟩) (n + 1) l' :=
          ((M9.out.gr (Gr.refl _).dr).gr hb5).stays (by simp [World.setCell]) fun k hk _ => by
            simp only [Option.map_some, Option.some.injEq] at hk
            subst hk
            simp [World.setCell, Array.getElem?_modify, hgt]
        rw [← HTI.out] at O5
        have HN2 := Lib.hid (show MS w ((w5.setCell ⟨tb, 0, none⟩ (.int .i64 r')).setCell ⟨tb, 1, none⟩ (.slice (some ⟨g, 0, none⟩) (n + 1) (n + 1))) L tb (k + 1) r' (some ⟨g, 0, none⟩) (n + 1) (n + 1) l' t' C5 from
          ⟨GN, by simpa using BN, MN, HG3.out, O5.mem, by have := HS.out.le; omega, fun j h => by
            rcases h with h | h
            · simp only [Option.map_some, Option.some.injEq] at h; subst h; exact hgw
            · exact Nat.lt_of_lt_of_le hw9 (O5.lt j h).1, fun y => by rw [← HA.out y, HTI.out, wi_mem]⟩)
        have HB2 := Lib.hid BR
        clear GN BN MN O5 BR own5 hb5 p0 p1 z0 z1 B5 s0 s1 f0 f1 BT BTd B9 B9d
        generalize (w5.setCell _ _).setCell _ _ = Wn at *
        go_wp2_with fail
        go_roundw
        case rel => exact ⟨k + 1, r', _, n + 1, n + 1, l', t', C5, k5, by omega, by go_num, rfl, HN2, HB2⟩
        case measure => simp [intOf]; omega
    · obtain rfl : k = m := by omega
      have hS := HS.out
      have hB := HB.out
      have f0 := (hS.b0.at_ (k := 0) rfl).1
      have f1 := (hS.b0.at_ (k := 1) rfl).1
      obtain ⟨p0, z0⟩ := hB.at_ (k := 0) rfl
      obtain ⟨p1, z1⟩ := hB.at_ (k := 1) rfl
      have BF := (hB.set 0 (.int .i64 r)).set 1 (.slice A n c)
      have GN := (hS.gr.st (p := ⟨w.heap.size, 0, none⟩) (Nat.le_refl _) (.int .i64 r)).st (p := ⟨w.heap.size, 1, none⟩) (Nat.le_refl _) (.slice A n c)
      have MN : NMem ((wr.setCell ⟨w.heap.size, 0, none⟩ (.int .i64 r)).setCell ⟨w.heap.size, 1, none⟩ (.slice A n c)) A n l :=
        hS.mem.stays (by simp [World.setCell]) fun j hj _ => by
          have h2 := hS.far j (.inl hj)
          have : w.heap.size ≠ j := by omega
          simp [World.setCell, Array.getElem?_modify, this]
      have KN : IMem ((wr.setCell ⟨w.heap.size, 0, none⟩ (.int .i64 r)).setCell ⟨w.heap.size, 1, none⟩ (.slice A n c)) C n t.inord :=
        ⟨hS.keys.1, hS.keys.2.1, fun hn => by
          obtain ⟨b, off, rfl, hb, hc⟩ := hS.keys.2.2 hn
          have h2 := hS.far b (.inr rfl)
          refine ⟨b, off, rfl, by simpa [World.setCell] using hb, fun j x hj => ?_⟩
          have hne : w.heap.size ≠ b := by omega
          rw [World.cell?_of_block (w := wr) (a := ⟨b, off + j, none⟩) (by simp [World.setCell, Array.getElem?_modify, hne])]
          exact hc j x hj⟩
      have hall : ∀ y, y ∈ t.inord ↔ ∃ x ∈ L.take 64, x % 4294967296 = y := fun y => by rw [← HML.out]; exact hS.all y
      have HF := Lib.hid (And.intro BF (And.intro GN (And.intro MN (And.intro KN (And.intro hS.good hall)))))
      clear BF GN MN KN hall hS hB hmin hmax
      go_wp2_with fail
      obtain ⟨BF, GN, MN, KN, hg, hall⟩ := HF.out
      clear p0 z0 p1 z1 f0 f1 HF
      generalize (wr.setCell _ _).setCell _ _ = WF at BF GN MN KN ⊢
      have q0 : WF.cell? ⟨w.heap.size, 0, none⟩ = some (.int .i64 r) := (BF.at_ (k := 0) rfl).1
      have q1 : WF.cell? ⟨w.heap.size, 1, none⟩ = some (.slice A n c) := (BF.at_ (k := 1) rfl).1
      exact bodyPost_ret (v := .tuple #[.agg #[.int .i64 r, .slice A n c], .slice C n d, .bool true]) (by simp [results, Try.results28, go_sem, q0, q1]) rfl ⟨r, A, n, c, l, t, C, d, rfl, MN, hg, KN, GN, hall⟩
end
end Go.Proofs.Ytpblonfcdnephaa
