/-
  deadboltref10: Release.
-/
import Derived.Test.YtmkkeknimpjfoaaSemaRefB
namespace Go.Proofs.Ytmkkeknimpjfoaa
open Go.ChangeShapes Go.WideShapes Go.ChangeAt Go.RowKit
set_option maxRecDepth 100000
set_option linter.unusedVariables false
set_option linter.unusedSimpArgs false

section
variable {w : World} {A : Option Addr} {n c : Nat} {L : List SV} {a : Int}
theorem setl_sp {s s' : SV} (hp : s.pl = s'.pl) : (setl L s).map SV.pl = (setl L s').map SV.pl := by
  obtain ⟨h1, h2, h3⟩ := plq hp
  unfold setl
  rw [h1]
  by_cases c : SNil s
  · rw [if_pos c, if_pos ((SNil.pl hp).1 c)]
  · rw [if_neg c, if_neg (fun k => c ((SNil.pl hp).2 k))]
    simp [hp]
theorem rSet_pl (hm : SMem w A n L) (hn : n ≤ 100000) (ht : TOk L) {s s' : SV} (hs : SOk s') (hp : s.pl = s'.pl) (hsok : s.ok w) :
    Calls Try.prog 31 #[.slice A n c, .agg #[.int .i64 s.addr, .int .i64 s.cnt, .slice s.A s.n s.c]] w fun e w' => ∃ B m T, e = .returned (.slice B T.length m) ∧ SMem w' B T.length T ∧ T.map SV.pl = (setl L s').map SV.pl ∧ Gr w w' := by
  refine (rSet_is (c := c) hm hn ht (hs.pl hp.symm) hsok).mono ?_
  rintro e w' ⟨B, m, rfl, h1, h2, h3⟩
  exact ⟨B, m, setl L s, rfl, h1, setl_sp hp, h3⟩
set_option maxHeartbeats 8000000 in
theorem rRel_is (hm : SMem w A n L) (hn : n ≤ 100000) (ht : Tab L) (hk : IsKey a) (ha : B64 a) {Q : List (Int × Int × List Int)} {x e : Int} (h : RelR L a Q x e) :
    Calls Try.prog 15 #[.slice A n c, .int .i64 a] w (GaveR Q #[.int .i64 x, .int .i64 e] w) := by
  have h' := (h.resolve_left (fun h' => by rcases h'.1 with h1 | h1; exact h1 ht; exact h1 hk)).2.2
  obtain ⟨k1, k2, k3, k4⟩ := gt_cnt ht.2 hk
  have KG := Lib.hid (rgot_is (c := c) hm (by omega) ha ht.2)
  have HM := Lib.hid hm
  have HT := Lib.hid ht
  have HA := Lib.hid ha
  have HK := Lib.hid hk
  obtain ⟨q, hq⟩ : ∃ q, (gt L a).1 = q := ⟨_, rfl⟩
  obtain ⟨l, hl⟩ : ∃ l, (gt L a).2 = l := ⟨_, rfl⟩
  rw [hq, hl] at h'
  rw [hq] at k1 k2
  rw [hl] at k3
  rw [hq, hl] at KG k4
  clear h hm ht hk ha hq hl
  rcases h' with ⟨r, rfl, rfl, rfl⟩ | ⟨rfl, rfl, rfl, rfl, rfl⟩ | h'
  · obtain rfl : q = 0 := k4.resolve_right (by simp)
    have hr : L7.Ln r := ⟨by have := k3.1; simp at this; omega, (L7.good_cons.1 k3.2).2.2⟩
    have hso : SOk (sp a 0 r) := ⟨HK.out, Int.le_refl _, (by decide : (0 : Int) ≤ 2147483647), hr, .inl rfl⟩
    have KS := Lib.hid (fun (W : World) (g : Gr w W) (s : SV) (hsok : s.ok W) (hp : s.pl = (sp a 0 r).pl) => rSet_pl (c := c) (HM.out.gr g) hn HT.out.2 hso hp hsok)
    clear k4 k3 hr hso
    go_enter Try.func15, Try.ntmps15
    go_wp2_with fail
    with_reducible refine KG.out.mono ?_
    rintro ee w1 ⟨B, m, d, rfl, hok, h1⟩
    have hlen : (x :: r).length = m := hok.len
    have hnc : m ≤ d := hok.2.2.2.1
    have hcm : d ≤ 9223372036854775807 := hok.2.2.2.2
    have hi0 : IMem w1 B m (x :: r) := hok.2.2.1
    simp only [List.length_cons] at hlen
    obtain ⟨b0, off, y, rfl, hbl, hy, hiy, cy⟩ := hi0.at_ (show 0 < m by omega)
    obtain rfl : x = y := by simpa using hy
    rw [Nat.add_zero] at cy
    have md := hi0.drop_ rfl 1 (by omega)
    rw [show (x :: r).drop 1 = r from rfl] at md
    obtain ⟨N, hN⟩ : ∃ N, m - 1 = N := ⟨_, rfl⟩
    obtain ⟨d2, hd2⟩ : ∃ d2, d - 1 = d2 := ⟨_, rfl⟩
    have hNr : r.length = N := by omega
    rw [hN] at md
    have z0 : (0 : Int) < (m : Int) := by omega
    have z1 : (1 : Int) ≤ (m : Int) := by omega
    have z2 : (m : Int) ≤ (d : Int) := by omega
    obtain ⟨A2, HA2⟩ : ∃ A2 : Option Addr, (d = 1 ∧ A2 = some ⟨b0, off, none⟩) ∨ (¬ d = 1 ∧ A2 = some ⟨b0, off + 1, none⟩) := by
      by_cases h : d = 1
      · exact ⟨_, .inl ⟨h, rfl⟩⟩
      · exact ⟨_, .inr ⟨h, rfl⟩⟩
    have md2 : IMem w1 A2 N r := by
      rcases HA2 with ⟨h, rfl⟩ | ⟨h, rfl⟩
      · obtain rfl : N = 0 := by omega
        obtain rfl : r = [] := List.eq_nil_of_length_eq_zero hNr
        exact EMem.nil_
      · exact md
    have GF := Lib.hid (h1.al (.cells #[.int .i64 a, .int .i64 0, .slice A2 N d2] 46))
    have KS2 := Lib.hid (KS.out _ GF.out ⟨a, 0, A2, N, d2, r⟩ ⟨HA.out, b64_zero, md2.gr ((Gr.refl w1).al _), by show N ≤ d2; omega, by show d2 ≤ 9223372036854775807; omega⟩ rfl)
    have cy2 : (w1.alloc (.cells #[.int .i64 a, .int .i64 0, .slice (some ⟨b0, off, none⟩) m d] 46)).cell? ⟨b0, off, none⟩ = some (.int .i64 x) := (((Gr.refl w1).al _).cell (p := ⟨b0, off, none⟩) hbl).trans cy
    clear hok hi0 h1 md md2 hlen KS hy
    rcases HA2 with ⟨rfl, rfl⟩ | ⟨hd1, rfl⟩
    all_goals (
      go_wp2_with fail
      with_reducible refine KS2.out.mono ?_
      rintro ee w3 ⟨B', m', T, rfl, hT, hTp, h3⟩
      have GG := Lib.hid (GF.out.trans h3)
      have HTT := Lib.hid hT
      clear hT h3
      obtain ⟨M, hM⟩ : ∃ M, T.length = M := ⟨_, rfl⟩
      rw [hM] at HTT ⊢
      go_wp2_with fail
      go_ret3
      exact ⟨B', m', T, by rw [hM]; rfl, hM ▸ HTT.out, hTp, GG.out⟩)
  · clear k4 k3
    go_enter Try.func15, Try.ntmps15
    go_wp2_with fail
    with_reducible refine KG.out.mono ?_
    rintro ee w1 ⟨B, m, d, rfl, hok, h1⟩
    obtain rfl : 0 = m := hok.len
    have GF := Lib.hid (h1.al (.cells #[.int .i64 a, .int .i64 2147483647, .slice B 0 d] 46))
    clear hok h1
    go_wp2_with fail
    go_ret3
    exact ⟨none, 0, [], rfl, SMem.nil_, rfl, GF.out⟩
  · have hcom : l = [] ∧ q < 2147483647 ∧ ((64 < (setl L (sp a (q + 1) [])).length ∧ Q = [] ∧ x = 0 ∧ e = 5) ∨ ((setl L (sp a (q + 1) [])).length ≤ 64 ∧ Q = (setl L (sp a (q + 1) [])).map SV.pl ∧ x = -1 ∧ e = 0)) := by
      rcases h' with ⟨h1, h2, h3⟩ | ⟨h1, h2, h3⟩
      · exact ⟨h1, h2, .inl h3⟩
      · exact ⟨h1, h2, .inr h3⟩
    clear h'
    obtain ⟨rfl, hq, hres⟩ := hcom
    have hso : SOk (sp a (q + 1) []) := ⟨HK.out, by show 0 ≤ q + 1; omega, by show q + 1 ≤ 2147483647; omega, L7.Ln.nil, .inr rfl⟩
    have hqe : (q == 2147483647) = false := beq_eq_false_iff_ne.2 (by omega)
    have HB : Hid (B64 (q + 1)) := Lib.hid ⟨by omega, by omega⟩
    clear k4 k3
    rcases hres with ⟨h64, rfl, rfl, rfl⟩ | ⟨h64, rfl, rfl, rfl⟩
    · have KS := Lib.hid (fun (W : World) (g : Gr w W) (s : SV) (hsok : s.ok W) (hp : s.pl = (sp a (q + 1) []).pl) => rset_is (c := c) (HM.out.gr g) hn HT.out.2 hso hp hsok (.inl ⟨h64, rfl, rfl⟩))
      clear hso h64
      go_enter Try.func15, Try.ntmps15
      go_wp2_with fail
      with_reducible refine KG.out.mono ?_
      rintro ee w1 ⟨B, m, d, rfl, hok, h1⟩
      obtain rfl : 0 = m := hok.len
      have GF := Lib.hid (h1.al (.cells #[.int .i64 a, .int .i64 (q + 1), .slice B 0 d] 46))
      have KS2 := Lib.hid (KS.out _ GF.out ⟨a, q + 1, B, 0, d, []⟩ ⟨HA.out, HB.out, EMem.nil_, Nat.zero_le _, hok.2.2.2.2⟩ rfl)
      clear hok h1 KS
      go_wp2_with fail
      with_reducible refine KS2.out.mono ?_
      rintro ee w3 ⟨B', m', T, rfl, hT, hTp, h3⟩
      have GG := Lib.hid (GF.out.trans h3)
      clear hT h3
      simp only [Array.append_assoc, List.append_toArray, List.cons_append, List.nil_append]
      go_wp2_with fail
      go_ret3
      exact ⟨none, 0, [], rfl, SMem.nil_, rfl, GG.out⟩
    · have KS := Lib.hid (fun (W : World) (g : Gr w W) (s : SV) (hsok : s.ok W) (hp : s.pl = (sp a (q + 1) []).pl) => rset_is (c := c) (HM.out.gr g) hn HT.out.2 hso hp hsok (.inr ⟨h64, rfl, rfl⟩))
      clear hso h64
      go_enter Try.func15, Try.ntmps15
      go_wp2_with fail
      with_reducible refine KG.out.mono ?_
      rintro ee w1 ⟨B, m, d, rfl, hok, h1⟩
      obtain rfl : 0 = m := hok.len
      have GF := Lib.hid (h1.al (.cells #[.int .i64 a, .int .i64 (q + 1), .slice B 0 d] 46))
      have KS2 := Lib.hid (KS.out _ GF.out ⟨a, q + 1, B, 0, d, []⟩ ⟨HA.out, HB.out, EMem.nil_, Nat.zero_le _, hok.2.2.2.2⟩ rfl)
      clear hok h1 KS
      go_wp2_with fail
      with_reducible refine KS2.out.mono ?_
      rintro ee w3 ⟨B', m', T, rfl, hT, hTp, h3⟩
      have GG := Lib.hid (GF.out.trans h3)
      have HTT := Lib.hid hT
      clear hT h3
      generalize hN : T.length = N at *
      simp only [Array.append_assoc, List.append_toArray, List.cons_append, List.nil_append]
      go_wp2_with fail
      go_ret3
      exact ⟨B', m', T, by rw [hN]; rfl, hN ▸ HTT.out, hTp, GG.out⟩
end
end Go.Proofs.Ytmkkeknimpjfoaa
