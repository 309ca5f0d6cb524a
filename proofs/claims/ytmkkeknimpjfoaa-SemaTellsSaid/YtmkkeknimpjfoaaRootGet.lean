/-
  Package root: Set, all of its answers; Get.
-/
import Derived.Test.YtmkkeknimpjfoaaRootSet
namespace Go.Proofs.Ytmkkeknimpjfoaa
open Go.ChangeShapes Go.WideShapes Go.ChangeAt Go.RowKit
set_option linter.unusedVariables false
set_option linter.unusedSimpArgs false

section
variable {w : World} {A : Option Addr} {n c : Nat} {L : List SV} {s : SV}
set_option maxHeartbeats 4000000 in
theorem Set_no (hm : SMem w A n L) (hsok : s.ok w) (h : ¬ SOk s ∨ ¬ Tab L) :
    Calls Try.prog 35 #[.slice A n c, .agg #[.int .i64 s.addr, .int .i64 s.cnt, .slice s.A s.n s.c]] w fun e w' => e = .returned (.tuple #[.slice none 0 0, .int .i64 1]) ∧ Gr w w' := by
  have g0 := (((Gr.refl w).al (.cells #[.int .i64 s.addr, .int .i64 s.cnt, .slice s.A s.n s.c] 46)).al (.cells #[.slice none 0 0] 22)).al (.cells #[.int .i64 0] 24)
  have B4 := (Blk.new (w.alloc (.cells #[.int .i64 s.addr, .int .i64 s.cnt, .slice s.A s.n s.c] 46)) #[.slice none 0 0] 22).al (.cells #[.int .i64 0] 24)
  have B5 := Blk.new ((w.alloc (.cells #[.int .i64 s.addr, .int .i64 s.cnt, .slice s.A s.n s.c] 46)).alloc (.cells #[.slice none 0 0] 22)) #[.int .i64 0] 24
  simp only [World.size_alloc] at B4 B5
  obtain ⟨b1, hb1⟩ := yes_no (SOk s)
  obtain ⟨b2, hb2⟩ := yes_no (Tab L)
  have C1 := Lib.hid (rsound_is (hsok.gr g0) hb1)
  have C2 := fun W (g : Gr w W) => RRight_is (c := c) (hm.gr g) hb2
  have K2 := Lib.hid C2
  have hbb : b1 = false ∨ (b1 = true ∧ b2 = false) := by
    cases b1
    · exact .inl rfl
    · right
      refine ⟨rfl, ?_⟩
      cases b2
      · rfl
      · rcases h with h | h
        · exact absurd (hb1.1 rfl) h
        · exact absurd (hb2.1 rfl) h
  clear C2 hb1 hb2 h hm hsok
  rcases hbb with rfl | ⟨rfl, rfl⟩
  · go_enter Try.func35, Try.ntmps35
    go_wp2_with fail
    with_reducible refine C1.out.mono ?_
    rintro e w1 ⟨rfl, h1⟩
    have D4 := B4.gr h1
    have D5 := B5.gr h1
    have G := g0.trans h1
    obtain ⟨p4, z4⟩ := D4.at_ (k := 0) rfl
    obtain ⟨p5, z5⟩ := D5.at_ (k := 0) rfl
    have HF4 := Lib.hid ((D4.set 0 (.slice none 0 0)).st (p := ⟨w.heap.size + 1 + 1, 0, none⟩) (by show w.heap.size + 1 + 1 ≠ w.heap.size + 1; omega) (.int .i64 1))
    have HF5 := Lib.hid ((D5.st (p := ⟨w.heap.size + 1, 0, none⟩) (by show w.heap.size + 1 ≠ w.heap.size + 1 + 1; omega) (.slice none 0 0)).set 0 (.int .i64 1))
    have HGF := Lib.hid ((G.st (p := ⟨w.heap.size + 1, 0, none⟩) (by show w.heap.size ≤ w.heap.size + 1; omega) (.slice none 0 0)).st (p := ⟨w.heap.size + 1 + 1, 0, none⟩) (by show w.heap.size ≤ w.heap.size + 1 + 1; omega) (.int .i64 1))
    clear C1 K2 h1 D4 D5 G B4 B5 g0
    go_wp2_with fail
    have F4 := HF4.out
    have F5 := HF5.out
    have GF := HGF.out
    clear p4 z4 p5 z5 HF4 HF5 HGF
    generalize (w1.setCell _ _).setCell _ _ = WF at F4 F5 GF ⊢
    have q4 : WF.cell? ⟨w.heap.size + 1, 0, none⟩ = some (.slice none 0 0) := (F4.at_ (k := 0) rfl).1
    have q5 : WF.cell? ⟨w.heap.size + 1 + 1, 0, none⟩ = some (.int .i64 1) := (F5.at_ (k := 0) rfl).1
    exact bodyPost_ret (v := .tuple #[.slice none 0 0, .int .i64 1]) (by simp [results, Try.results35, go_sem, q4, q5]) rfl ⟨rfl, GF⟩
  · go_enter Try.func35, Try.ntmps35
    go_wp2_with fail
    with_reducible refine C1.out.mono ?_
    rintro e w0 ⟨rfl, h0⟩
    go_wp2_with fail
    with_reducible refine (K2.out _ (g0.trans h0)).mono ?_
    rintro e w1 ⟨rfl, h1'⟩
    have h1 := h0.trans h1'
    have D4 := B4.gr h1
    have D5 := B5.gr h1
    have G := g0.trans h1
    obtain ⟨p4, z4⟩ := D4.at_ (k := 0) rfl
    obtain ⟨p5, z5⟩ := D5.at_ (k := 0) rfl
    have HF4 := Lib.hid ((D4.set 0 (.slice none 0 0)).st (p := ⟨w.heap.size + 1 + 1, 0, none⟩) (by show w.heap.size + 1 + 1 ≠ w.heap.size + 1; omega) (.int .i64 1))
    have HF5 := Lib.hid ((D5.st (p := ⟨w.heap.size + 1, 0, none⟩) (by show w.heap.size + 1 ≠ w.heap.size + 1 + 1; omega) (.slice none 0 0)).set 0 (.int .i64 1))
    have HGF := Lib.hid ((G.st (p := ⟨w.heap.size + 1, 0, none⟩) (by show w.heap.size ≤ w.heap.size + 1; omega) (.slice none 0 0)).st (p := ⟨w.heap.size + 1 + 1, 0, none⟩) (by show w.heap.size ≤ w.heap.size + 1 + 1; omega) (.int .i64 1))
    clear C1 K2 h1 h1' h0 D4 D5 G B4 B5 g0
    go_wp2_with fail
    have F4 := HF4.out
    have F5 := HF5.out
    have GF := HGF.out
    clear p4 z4 p5 z5 HF4 HF5 HGF
    generalize (w1.setCell _ _).setCell _ _ = WF at F4 F5 GF ⊢
    have q4 : WF.cell? ⟨w.heap.size + 1, 0, none⟩ = some (.slice none 0 0) := (F4.at_ (k := 0) rfl).1
    have q5 : WF.cell? ⟨w.heap.size + 1 + 1, 0, none⟩ = some (.int .i64 1) := (F5.at_ (k := 0) rfl).1
    exact bodyPost_ret (v := .tuple #[.slice none 0 0, .int .i64 1]) (by simp [results, Try.results35, go_sem, q4, q5]) rfl ⟨rfl, GF⟩
/-- The same, and it lies in new blocks. -/
theorem Set_isO (hm : SMem w A n L) (hnc : n ≤ c) (hcm : c ≤ 9223372036854775807) (hsok : s.ok w) {R : List (Int × Int × List Int)} {e : Int} (h : SetR L s R e) :
    Calls Try.prog 35 #[.slice A n c, .agg #[.int .i64 s.addr, .int .i64 s.cnt, .slice s.A s.n s.c]] w fun ee w' =>
      ∃ B m T, ee = .returned (.tuple #[.slice B T.length m, .int .i64 e]) ∧ SMem w' B T.length T ∧ T.length ≤ m ∧ m ≤ 9223372036854775807 ∧ T.map SV.pl = R ∧ Gr w w' ∧ SOwn w' w.heap.size (.slice B T.length m) T := by
  rcases h with ⟨h, rfl, rfl⟩ | ⟨hs, ht, h⟩
  · refine (Set_no (c := c) hm hsok h).mono ?_
    rintro ee w' ⟨rfl, hg⟩
    exact ⟨none, 0, [], rfl, SMem.nil_, Nat.le_refl _, by omega, rfl, hg, SOwn.nil _ _⟩
  · refine (Set_yes hm hnc hcm hsok ht hs).mono ?_
    rintro ee w' (⟨h64, rfl, hg⟩ | ⟨h64, B, m, T, rfl, h1, h2, h3, h4, hg, ho⟩)
    · obtain ⟨_, rfl, rfl⟩ := h.resolve_right (fun h' => by omega)
      exact ⟨none, 0, [], rfl, SMem.nil_, Nat.le_refl _, by omega, rfl, hg, SOwn.nil _ _⟩
    · obtain ⟨_, rfl, rfl⟩ := h.resolve_left (fun h' => by omega)
      exact ⟨B, m, T, rfl, h1, h2, h3, h4, hg, ho⟩
theorem Set_is (hm : SMem w A n L) (hnc : n ≤ c) (hcm : c ≤ 9223372036854775807) (hsok : s.ok w) {R : List (Int × Int × List Int)} {e : Int} (h : SetR L s R e) :
    Calls Try.prog 35 #[.slice A n c, .agg #[.int .i64 s.addr, .int .i64 s.cnt, .slice s.A s.n s.c]] w fun ee w' =>
      ∃ B m T, ee = .returned (.tuple #[.slice B T.length m, .int .i64 e]) ∧ SMem w' B T.length T ∧ T.length ≤ m ∧ m ≤ 9223372036854775807 ∧ T.map SV.pl = R ∧ Gr w w' := by
  refine (Set_isO hm hnc hcm hsok h).mono ?_
  rintro ee w' ⟨B, m, T, rfl, h1, h2, h3, h4, h5, _⟩
  exact ⟨B, m, T, rfl, h1, h2, h3, h4, h5⟩
theorem b64_zero : B64 0 := ⟨by decide, by decide⟩
theorem ok_zero (w : World) {a : Int} (ha : B64 a) : SV.ok w ⟨a, 0, none, 0, 0, []⟩ := ⟨ha, b64_zero, EMem.nil_, Nat.le_refl _, Nat.zero_le _⟩
/-- What Get answers. -/
def GetR (L : List SV) (a : Int) (g : Int × Int × List Int) (e : Int) : Prop :=
  ((¬ IsKey a ∨ ¬ Tab L) ∧ g = (0, 0, []) ∧ e = 1) ∨ (IsKey a ∧ Tab L ∧ e = 0 ∧ ((∃ x ∈ L, x.addr = a ∧ g = x.pl) ∨ (¬ Has L a ∧ g = (a, 0, []))))
theorem GetR.any (L : List SV) (a : Int) : ∃ g e, GetR L a g e := by
  by_cases h : IsKey a ∧ Tab L
  · by_cases hh : Has L a
    · obtain ⟨x, hx, e⟩ := hh
      exact ⟨_, _, .inr ⟨h.1, h.2, rfl, .inl ⟨x, hx, e, rfl⟩⟩⟩
    · exact ⟨_, _, .inr ⟨h.1, h.2, rfl, .inr ⟨hh, rfl⟩⟩⟩
  · refine ⟨_, _, .inl ⟨?_, rfl, rfl⟩⟩
    by_cases hk : IsKey a
    · exact .inr fun ht => h ⟨hk, ht⟩
    · exact .inl hk
set_option maxHeartbeats 8000000 in
theorem Get_is (hm : SMem w A n L) {a : Int} (ha : B64 a) {g : Int × Int × List Int} {e : Int} (h : GetR L a g e) :
    Calls Try.prog 34 #[.slice A n c, .int .i64 a] w fun ee w' =>
      ∃ y : SV, ee = .returned (.tuple #[.agg #[.int .i64 y.addr, .int .i64 y.cnt, .slice y.A y.n y.c], .int .i64 e]) ∧ y.ok w' ∧ y.pl = g ∧ Gr w w' := by
  have hlen := hm.1
  have g0 := (Gr.refl w).al (.cells #[.int .i64 0, .int .i64 0, .slice none 0 0] 46)
  have B0 := Blk.new w #[.int .i64 0, .int .i64 0, .slice none 0 0] 46
  obtain ⟨b2, hb2⟩ := yes_no (Tab L)
  have K2 := Lib.hid (RRight_is (c := c) (hm.gr g0) hb2)
  have C1 := Lib.hid (fun W => Root_is a W)
  have HA := Lib.hid ha
  by_cases hk : IsKey a
  · rw [rf_key hk, re_key hk] at C1
    generalize rt a = r at *
    cases b2 with
    | false =>
      obtain ⟨_, rfl, rfl⟩ := h.resolve_right (fun h' => absurd (hb2.2 h'.2.1) (by simp))
      clear hb2 h hm ha hk
      go_enter Try.func34, Try.ntmps34
      go_wp2_with fail
      with_reducible refine (C1.out _).mono ?_
      rintro ee w0 ⟨rfl, rfl⟩
      go_wp2_with fail
      with_reducible refine K2.out.mono ?_
      rintro ee w1 ⟨rfl, h1⟩
      have D0 := B0.gr h1
      have G := g0.trans h1
      obtain ⟨p0, z0⟩ := D0.at_ (k := 0) rfl
      obtain ⟨p1, z1⟩ := D0.at_ (k := 1) rfl
      obtain ⟨p2, z2⟩ := D0.at_ (k := 2) rfl
      have HF := Lib.hid (((D0.set 0 (.int .i64 0)).set 1 (.int .i64 0)).set 2 (.slice none 0 0))
      have HG := Lib.hid (((G.st (p := ⟨w.heap.size, 0, none⟩) (Nat.le_refl _) (.int .i64 0)).st (p := ⟨w.heap.size, 1, none⟩) (Nat.le_refl _) (.int .i64 0)).st (p := ⟨w.heap.size, 2, none⟩) (Nat.le_refl _) (.slice none 0 0))
      clear K2 C1 D0 G h1 B0 g0
      go_wp2_with fail
      have F := HF.out
      have GF := HG.out
      clear p0 z0 p1 z1 p2 z2 HF HG
      generalize ((w1.setCell _ _).setCell _ _).setCell _ _ = WF at F GF ⊢
      have q0 : WF.cell? ⟨w.heap.size, 0, none⟩ = some (.int .i64 0) := (F.at_ (k := 0) rfl).1
      have q1 : WF.cell? ⟨w.heap.size, 1, none⟩ = some (.int .i64 0) := (F.at_ (k := 1) rfl).1
      have q2 : WF.cell? ⟨w.heap.size, 2, none⟩ = some (.slice none 0 0) := (F.at_ (k := 2) rfl).1
      exact bodyPost_ret (v := .tuple #[.agg #[.int .i64 0, .int .i64 0, .slice none 0 0], .int .i64 1]) (by simp [results, Try.results34, go_sem, q0, q1, q2]) rfl
        ⟨⟨0, 0, none, 0, 0, []⟩, rfl, ok_zero _ b64_zero, rfl, GF⟩
    | true =>
      have ht := hb2.1 rfl
      obtain ⟨_, _, rfl, hcase⟩ := h.resolve_left (fun h' => by rcases h'.1 with h1 | h1 <;> first | exact h1 hk | exact h1 ht)
      obtain ⟨v, hv⟩ := yes_no (Has L a)
      have HT := Lib.hid ht
      have HM := Lib.hid hm
      have CF := fun W (g : Gr w W) => rfind_is (c := c) (hm.gr g) ht hk hv
      have KF := Lib.hid CF
      have HPL := Lib.hid (has_iff ht.2 a)
      have HV := Lib.hid hv
      have HC := Lib.hid hcase
      clear hb2 h hm ha ht hv hcase CF
      go_enter Try.func34, Try.ntmps34
      go_wp2_with fail
      with_reducible refine (C1.out _).mono ?_
      rintro ee w0 ⟨rfl, rfl⟩
      go_wp2_with fail
      with_reducible refine K2.out.mono ?_
      rintro ee w1 ⟨rfl, h1⟩
      go_wp2_with fail
      with_reducible refine (KF.out _ (g0.trans h1)).mono ?_
      rintro ee w2 ⟨rfl, h2⟩
      have D0 := (B0.gr h1).gr h2
      have G := Lib.hid ((g0.trans h1).trans h2)
      obtain ⟨p0, z0⟩ := D0.at_ (k := 0) rfl
      obtain ⟨p1, z1⟩ := D0.at_ (k := 1) rfl
      obtain ⟨p2, z2⟩ := D0.at_ (k := 2) rfl
      have HD := Lib.hid D0
      clear K2 C1 KF D0 h1 h2 B0 g0
      cases v with
      | false =>
        have hg : g = (a, 0, []) := by
          rcases HC.out with ⟨x, hx, e, _⟩ | ⟨_, e⟩
          · exact absurd (HV.out.2 ⟨x, hx, e⟩) (by simp)
          · exact e
        have HGG := Lib.hid hg
        have HF := Lib.hid (((HD.out.set 0 (.int .i64 a)).set 1 (.int .i64 0)).set 2 (.slice none 0 0))
        have HG := Lib.hid (((G.out.st (p := ⟨w.heap.size, 0, none⟩) (Nat.le_refl _) (.int .i64 a)).st (p := ⟨w.heap.size, 1, none⟩) (Nat.le_refl _) (.int .i64 0)).st (p := ⟨w.heap.size, 2, none⟩) (Nat.le_refl _) (.slice none 0 0))
        clear hg HC HV
        go_wp2_with fail
        have F := HF.out
        have GF := HG.out
        clear p0 z0 p1 z1 p2 z2 HF HG
        generalize ((w2.setCell _ _).setCell _ _).setCell _ _ = WF at F GF ⊢
        have q0 : WF.cell? ⟨w.heap.size, 0, none⟩ = some (.int .i64 a) := (F.at_ (k := 0) rfl).1
        have q1 : WF.cell? ⟨w.heap.size, 1, none⟩ = some (.int .i64 0) := (F.at_ (k := 1) rfl).1
        have q2 : WF.cell? ⟨w.heap.size, 2, none⟩ = some (.slice none 0 0) := (F.at_ (k := 2) rfl).1
        exact bodyPost_ret (v := .tuple #[.agg #[.int .i64 a, .int .i64 0, .slice none 0 0], .int .i64 0]) (by simp [results, Try.results34, go_sem, q0, q1, q2]) rfl
          ⟨⟨a, 0, none, 0, 0, []⟩, rfl, ok_zero _ HA.out, HGG.out.symm, GF⟩
      | true =>
        obtain ⟨x, hx, hxa⟩ := HPL.out.1 (HV.out.1 rfl)
        obtain ⟨p, hp⟩ : ∃ p, plc L a = p := ⟨_, rfl⟩
        rw [hp] at hx
        have hpn : p < n := by rw [← hlen]; exact (List.getElem?_eq_some_iff.1 hx).1
        obtain ⟨b, off, x', rfl, hbl, hx', hok, d0, d1, d2⟩ := (HM.out.gr G.out).at_ hpn
        rw [hx] at hx'
        cases hx'
        have hg : g = x.pl := by
          rcases HC.out with ⟨y, hy, e, rfl⟩ | ⟨hno, _⟩
          · have : y = x := by
              obtain ⟨i, hi⟩ := List.mem_iff_getElem?.1 hy
              rcases Nat.lt_trichotomy i p with h3 | h3 | h3
              · exact absurd (HT.out.2.at_ h3 hi hx) (by rw [e, hxa]; exact fun h => h.irrefl)
              · subst h3; rw [hx] at hi; exact (Option.some.inj hi).symm
              · exact absurd (HT.out.2.at_ h3 hx hi) (by rw [e, hxa]; exact fun h => h.irrefl)
            rw [this]
          · exact absurd (HV.out.1 rfl) hno
        have HGG := Lib.hid hg
        have h64 : x.line.length ≤ 64 := (HT.out.2.1 x (List.mem_of_getElem? hx)).1.2.2.2.1.1
        have hl := hok.len
        have CO := Lib.hid (own_is' (a := x.addr) (q := x.cnt) (c := x.c) hok.2.2.1 (by omega))
        have hb1x := Lib.hid hok.1
        have hb2x := Lib.hid hok.2.1
        have hlt2 := HD.out.lt
        have pp0 : (0 : Int) ≤ (p : Int) := by omega
        have pp1 : (p : Int) < (n : Int) := by omega
        have HPP := Lib.hid hp
        clear hg HC HV hx hok hxa
        rw [HPP.out]
        go_wp2_with fail
        with_reducible refine CO.out.mono ?_
        rintro ee w3 ⟨B, k, rfl, ho3, h3⟩
        have D3 := HD.out.gr h3
        have G3 := G.out.trans h3
        clear p0 z0 p1 z1 p2 z2 d0 d1 d2
        obtain ⟨p0, z0⟩ := D3.at_ (k := 0) rfl
        obtain ⟨p1, z1⟩ := D3.at_ (k := 1) rfl
        obtain ⟨p2, z2⟩ := D3.at_ (k := 2) rfl
        have hlt3 := D3.lt
        have HF := Lib.hid (((D3.set 0 (.int .i64 x.addr)).set 1 (.int .i64 x.cnt)).set 2 (.slice B x.n k))
        have HG := Lib.hid (((G3.st (p := ⟨w.heap.size, 0, none⟩) (Nat.le_refl _) (.int .i64 x.addr)).st (p := ⟨w.heap.size, 1, none⟩) (Nat.le_refl _) (.int .i64 x.cnt)).st (p := ⟨w.heap.size, 2, none⟩) (Nat.le_refl _) (.slice B x.n k))
        have HO3 := Lib.hid (((ho3.st (p := ⟨w.heap.size, 0, none⟩) hlt2 (.int .i64 x.addr)).st (p := ⟨w.heap.size, 1, none⟩) hlt2 (.int .i64 x.cnt)).st (p := ⟨w.heap.size, 2, none⟩) hlt2 (.slice B x.n k))
        clear CO D3 G3 h3 ho3
        go_wp2_with fail
        have F := HF.out
        have GF := HG.out
        have OF := HO3.out
        clear p0 z0 p1 z1 p2 z2 HF HG HO3
        generalize ((w3.setCell _ _).setCell _ _).setCell _ _ = WF at F GF OF ⊢
        have q0 : WF.cell? ⟨w.heap.size, 0, none⟩ = some (.int .i64 x.addr) := (F.at_ (k := 0) rfl).1
        have q1 : WF.cell? ⟨w.heap.size, 1, none⟩ = some (.int .i64 x.cnt) := (F.at_ (k := 1) rfl).1
        have q2 : WF.cell? ⟨w.heap.size, 2, none⟩ = some (.slice B x.n k) := (F.at_ (k := 2) rfl).1
        exact bodyPost_ret (v := .tuple #[.agg #[.int .i64 x.addr, .int .i64 x.cnt, .slice B x.n k], .int .i64 0]) (by simp [results, Try.results34, go_sem, q0, q1, q2]) rfl
          ⟨⟨x.addr, x.cnt, B, x.n, k, x.line⟩, rfl, ⟨hb1x.out, hb2x.out, OF.mem, OF.le, by have := OF.max; unfold maxLen at this; exact this⟩, HGG.out.symm, GF⟩
  · obtain ⟨_, rfl, rfl⟩ := h.resolve_right (fun h' => hk h'.1)
    rw [rf_no hk, re_no hk] at C1
    have F := Lib.hid B0
    have GF := Lib.hid g0
    clear hb2 h hm ha hk K2 B0 g0
    go_enter Try.func34, Try.ntmps34
    go_wp2_with fail
    with_reducible refine (C1.out _).mono ?_
    rintro ee w0 ⟨rfl, rfl⟩
    go_wp2_with fail
    have q0 := (F.out.at_ (k := 0) rfl).1
    have q1 := (F.out.at_ (k := 1) rfl).1
    have q2 := (F.out.at_ (k := 2) rfl).1
    exact bodyPost_ret (v := .tuple #[.agg #[.int .i64 0, .int .i64 0, .slice none 0 0], .int .i64 1]) (by simp [results, Try.results34, go_sem]) rfl
      ⟨⟨0, 0, none, 0, 0, []⟩, rfl, ok_zero _ b64_zero, rfl, GF.out⟩
end
end Go.Proofs.Ytmkkeknimpjfoaa
