/-
  The law RootSpots: for every slice of spots, the law's function returns true, and its argument reads behind the call as it read before. No condition.
-/
import Derived.Test.YtdioecicakpfdaaRootFew
import Derived.Test.YtdioecicakpfdaaEnds
namespace Go.Proofs.Ytdioecicakpfdaa
open Go.ChangeShapes Go.WideShapes Go.ChangeAt Go.RowKit
set_option linter.unusedVariables false
set_option linter.unusedSimpArgs false

/-- A table's spots by roots: those of lower ones, those of one, those of higher ones. -/
theorem tok_split {L : List SV} (h : TOk L) (n : Int) : L = L.filter (fun x => decide (rt x.addr < n)) ++ (L.filter (fun x => decide (rt x.addr = n)) ++ L.filter (fun x => decide (n < rt x.addr))) := by
  refine tok_ext h ⟨fun x hx => ?_, ?_⟩ fun x => ?_
  · simp only [List.mem_append, List.mem_filter] at hx
    rcases hx with ⟨h1, _⟩ | ⟨h1, _⟩ | ⟨h1, _⟩ <;> exact h.1 x h1
  · rw [List.pairwise_append, List.pairwise_append]
    refine ⟨h.2.sublist List.filter_sublist, ⟨h.2.sublist List.filter_sublist, h.2.sublist List.filter_sublist, fun a ha b hb => ?_⟩, fun a ha b hb => ?_⟩
    · rw [List.mem_filter, decide_eq_true_eq] at ha hb
      unfold Lt; omega
    · simp only [List.mem_append, List.mem_filter, decide_eq_true_eq] at ha hb
      unfold Lt
      rcases hb with ⟨_, hb⟩ | ⟨_, hb⟩ <;> omega
  · simp only [List.mem_append, List.mem_filter, decide_eq_true_eq]
    constructor
    · intro hx
      rcases Int.lt_trichotomy (rt x.addr) n with h1 | h1 | h1
      · exact .inl ⟨hx, h1⟩
      · exact .inr (.inl ⟨hx, h1⟩)
      · exact .inr (.inr ⟨hx, h1⟩)
    · rintro (⟨hx, _⟩ | ⟨hx, _⟩ | ⟨hx, _⟩) <;> exact hx
/-- How many spots have lower roots. -/
def bel (L : List SV) (n : Int) : Nat := (L.filter fun x => decide (rt x.addr < n)).length
theorem bel_zero (L : List SV) : bel L 0 = 0 := by
  unfold bel
  rw [List.filter_eq_nil_iff.2]
  · rfl
  · intro x _
    have := (rt_range x.addr).1
    simp; omega
theorem bel_all (L : List SV) : bel L 251 = L.length := by
  unfold bel
  rw [List.filter_eq_self.2]
  intro x _
  have := (rt_range x.addr).2
  simp; omega
theorem bel_le (L : List SV) (n : Int) : bel L n ≤ L.length := List.length_filter_le _ _
theorem bel_succ {L : List SV} (h : TOk L) (n : Int) : bel L (n + 1) = bel L n + (und L n).length := by
  have e := tok_split h n
  have hu : (und L n).length = (L.filter fun x => decide (rt x.addr = n)).length := by unfold und; rw [List.length_map]
  have e1 : (L.filter fun x => decide (rt x.addr < n)).filter (fun x => decide (rt x.addr < n + 1)) = L.filter fun x => decide (rt x.addr < n) := List.filter_eq_self.2 fun x hx => by
    rw [List.mem_filter, decide_eq_true_eq] at hx; simp; omega
  have e2 : (L.filter fun x => decide (rt x.addr = n)).filter (fun x => decide (rt x.addr < n + 1)) = L.filter fun x => decide (rt x.addr = n) := List.filter_eq_self.2 fun x hx => by
    rw [List.mem_filter, decide_eq_true_eq] at hx; simp; omega
  have e3 : (L.filter fun x => decide (n < rt x.addr)).filter (fun x => decide (rt x.addr < n + 1)) = [] := List.filter_eq_nil_iff.2 fun x hx => by
    rw [List.mem_filter, decide_eq_true_eq] at hx; simp; omega
  have e4 := congrArg (List.filter fun x : SV => decide (rt x.addr < n + 1)) e
  rw [List.filter_append, List.filter_append, e1, e2, e3, List.append_nil] at e4
  unfold bel
  rw [hu, e4, List.length_append]
theorem bel_at {L : List SV} (h : TOk L) {n : Int} {j : Nat} {a : Int} (hj : (und L n)[j]? = some a) : ∃ x, L[bel L n + j]? = some x ∧ x.addr = a ∧ rt a = n := by
  have e := tok_split h n
  unfold und at hj
  rw [List.getElem?_map, Option.map_eq_some_iff] at hj
  obtain ⟨x, hx, rfl⟩ := hj
  refine ⟨x, ?_, rfl, ?_⟩
  · have hl := (List.getElem?_eq_some_iff.1 hx).1
    conv => lhs; arg 1; rw [e]
    unfold bel
    rw [List.getElem?_append_right (by omega), Nat.add_sub_cancel_left, List.getElem?_append_left hl]
    exact hx
  · have := List.mem_of_getElem? hx
    rw [List.mem_filter, decide_eq_true_eq] at this
    exact this.2
set_option maxRecDepth 100000 in
set_option maxHeartbeats 8000000 in
theorem RootSpots_walk (w : World) (A : Option Addr) (n c : Nat) (L0 : List SV) (hc : n ≤ c) (hn : n ≤ 9223372036854775807) (hm : SMem w A n L0) :
    Calls Try.prog 5 #[.slice A n c] w fun e w' => e = .returned (.bool true) ∧ Gr w w' := by
  have CF := Lib.hid (few_is hm hc hn)
  have hl70 := fewL_len L0
  obtain ⟨L, hL⟩ : ∃ L, fewL L0 = L := ⟨_, rfl⟩
  rw [hL] at CF hl70
  clear hm hL
  obtain ⟨N, hN⟩ : ∃ N, L.length = N := ⟨_, rfl⟩
  rw [hN] at CF hl70
  have CA := Lib.hid alive_ok
  obtain ⟨b, hb⟩ := yes_no (Tab L)
  have HB := Lib.hid hb
  have HN := Lib.hid hN
  clear hb hN
  go_enter Try.func5, Try.ntmps5
  go_wp2_with fail
  with_reducible refine CF.out.mono ?_
  rintro e w1 ⟨B, m, rfl, hmem, hle, hmx, hb1⟩
  have HM := Lib.hid hmem
  have HLE := Lib.hid hle
  have G1 := Lib.hid hb1
  have CR := Lib.hid (RRight_is (c := m) hmem HB.out)
  clear CF hmem hle hmx hb1
  go_wp2_with fail
  with_reducible refine CR.out.mono ?_
  rintro e w2 ⟨rfl, hb2⟩
  have G2 := Lib.hid (G1.out.trans hb2)
  have HM2 := Lib.hid (HM.out.gr hb2)
  clear CR HM G1 hb2
  cases b with
  | false =>
    have CU := Lib.hid (Under_is (c := m) HM2.out (r := 0) (R := []) (e := 1) (.inl ⟨.inl (fun h => absurd (HB.out.2 h) (by simp)), rfl, rfl⟩))
    go_wp2_with fail
    with_reducible refine CU.out.mono ?_
    rintro e w3 ⟨C, k, rfl, hu, hk, hb3⟩
    have G3 := Lib.hid (G2.out.trans hb3)
    clear CU hu hk hb3 HB
    simp only [List.length_nil]
    go_wp2_with fail
    with_reducible refine (CA.out _).mono ?_
    rintro e w4 ⟨rfl, hb4⟩
    have G4 := Lib.hid (G3.out.trans hb4)
    clear hb4
    go_wp2_with fail
    go_ret
    exact ⟨rfl, G4.out⟩
  | true =>
    have HT := Lib.hid (HB.out.1 rfl)
    clear HB
    go_wp2_with fail
    go_loopw [5, 33] (fun T i wr => ∃ k : Nat, k ≤ 251 ∧ i = .int .i64 (k : Int) ∧ T = .int .i64 ((bel L (k : Int) : Nat) : Int) ∧ Hid (Gr w wr) ∧ Hid (SMem wr B N L)) (fun _ i _ => 251 - (intOf i).toNat)
    case atStart => exact ⟨0, by omega, rfl, by rw [show ((0 : Nat) : Int) = 0 from rfl, bel_zero]; rfl, G2, HM2⟩
    case round =>
      clear G2 HM2
      obtain ⟨k, hk, rfl, rfl, HG, HM⟩ := hrel
      by_cases hlt : k < 251
      · have k0 : (0 : Int) ≤ (k : Int) := by omega
        have k1 : (k : Int) < 251 := by omega
        have CU := Lib.hid (Under_is (c := m) HM.out (r := (k : Int)) (R := und L (k : Int)) (e := 0) (.inr ⟨HT.out, by omega, by omega, rfl, rfl⟩))
        have HU := Lib.hid (fun j a => bel_at (n := (k : Int)) HT.out.2 (j := j) (a := a))
        have HS := Lib.hid (bel_succ HT.out.2 (k : Int))
        have hbl := bel_le L (k : Int)
        have hbl' := bel_le L ((k : Int) + 1)
        have HKEY := Lib.hid (fun a (ha : a ∈ und L (k : Int)) => und_key HT.out.2 ha)
        rw [HS.out] at hbl'
        generalize bel L (k : Int) = s at *
        obtain ⟨U, hU⟩ : ∃ U, und L (k : Int) = U := ⟨_, rfl⟩
        rw [hU] at CU HU HS HKEY hbl'
        clear hU
        obtain ⟨u, hu⟩ : ∃ u, U.length = u := ⟨_, rfl⟩
        rw [hu] at CU HS hbl'
        have HUL := Lib.hid hu
        have hNN := HN.out
        rw [hNN] at hbl hbl'
        clear hu hNN
        go_wp2_with fail
        with_reducible refine CU.out.mono ?_
        rintro e w3 ⟨C, d, rfl, hui, hud, hb3⟩
        have HUI := Lib.hid hui
        have HG3 := Lib.hid (HG.out.trans hb3)
        have HM3 := Lib.hid (HM.out.gr hb3)
        clear CU HG HM hui hud hb3
        go_wp2_with fail
        go_loop [5, 46] (fun T i => ∃ j q : Nat, j ≤ u ∧ i = .int .i64 (j : Int) ∧ T = .int .i64 (q : Int) ∧ Hid (q = s + j)) (fun _ i => u - (intOf i).toNat)
        case atStart => exact ⟨0, s, Nat.zero_le _, rfl, rfl, Lib.hid rfl⟩
        case round =>
          obtain ⟨j, q, hj, rfl, rfl, HQ⟩ := hrel
          by_cases hju : j < u
          · obtain ⟨b', off', a, rfl, hbl2, ha, hia, ca⟩ := HUI.out.at_ hju
            obtain ⟨x, hx, hxa, hra⟩ := HU.out j a ha
            rw [← HQ.out] at hx
            have hqN : q < N := by have := (List.getElem?_eq_some_iff.1 hx).1; rw [HN.out] at this; exact this
            obtain ⟨b, off, x', rfl, hbl3, hx', hok, d0, d1, d2⟩ := HM3.out.at_ hqN
            rw [hx] at hx'
            cases hx'
            have hkey := HKEY.out a (List.mem_of_getElem? ha)
            have CR := Lib.hid (fun W => Root_is a W)
            rw [rf_key hkey, re_key hkey, hra] at CR
            rw [hxa] at d0
            have j0 : (0 : Int) ≤ (j : Int) := by omega
            have j1 : (j : Int) < (u : Int) := by omega
            have q0 : (0 : Int) ≤ (q : Int) := by omega
            have q1 : (q : Int) < (N : Int) := by omega
            have q2 : ¬ (N : Int) ≤ (q : Int) := by omega
            have q3 : decide ((N : Int) ≤ (q : Int)) = false := decide_eq_false q2
            have HQ' : Hid (q + 1 = s + (j + 1)) := Lib.hid (by have := HQ.out; omega)
            clear ha hx hxa hra hok hkey HU
            go_wp2_with fail
            with_reducible refine (CR.out _).mono ?_
            rintro e w4 ⟨rfl, hw4⟩
            obtain rfl : w3 = w4 := hw4.symm
            go_wp2_with fail
            go_round
            case rel => exact ⟨j + 1, q + 1, by omega, by go_num, by go_num, HQ'⟩
            case measure => simp [intOf]; omega
          · obtain rfl : j = u := by omega
            have hq : q = bel L ((k : Int) + 1) := by rw [HS.out]; exact HQ.out
            have HQQ := Lib.hid hq
            have hqN := hbl'
            rw [← HQ.out] at hqN
            clear hq
            go_wp2_with fail
            go_roundw
            case rel => exact ⟨k + 1, by omega, by go_num, by rw [HQQ.out]; rfl, HG3, HM3⟩
            case measure => simp [intOf]; omega
      · obtain rfl : k = 251 := by omega
        have hb := Lib.hid ((bel_all L).trans HN.out)
        have hb' : ((bel L ((251 : Nat) : Int) : Nat) : Int) = (N : Int) := by rw [show ((251 : Nat) : Int) = 251 from rfl, hb.out]
        rw [hb']
        clear hb'
        go_wp2_with fail
        with_reducible refine (CA.out _).mono ?_
        rintro e w4 ⟨rfl, hb4⟩
        have G4 := Lib.hid (HG.out.trans hb4)
        clear hb4
        go_wp2_with fail
        go_ret
        exact ⟨rfl, G4.out⟩
set_option maxRecDepth 100000 in
theorem RootSpots_lifted (os : Os) (started : os.Started) (H : Type) (enc : TypeId × Value → H) :
    ReturnsInHanded {} Try.checked os 5 .any (Rows.rootSpotsSpec.pre6 enc Try.prog Try.f5 Rows.rootSpotsRow.domain false) (Rows.rootSpotsSpec.post enc Try.prog Try.f5 false true false false) := by
  refine returnsInHanded_of_change (C := Try.checked) own started (by kernel_rfl) Try.func5
    (ChangeSpec.witness6 (enc := enc) (C := Try.checked) false ⟨#[], #[.slice none 0 0], []⟩ 8 (by kernel_rfl) (by kernel_rfl) (by kernel_rfl) (by kernel_rfl)) ?_
  intro W base args ds gs before hval0 hW hcnd _
  have hval : ∀ (j : Nat) t v, Try.f5.params[j]? = some t → args[j]? = some v → Value.okWide Try.prog W .any base t v := hval0
  have hW' := hW
  obtain ⟨p, q, hA0, hV, rfl, hfz, hnd⟩ := hW
  have hA : DataW.TrodAll enc Try.prog W 0 (fun _ => true) true Try.f5.params.toList args.toList ds p := hA0
  rw [Try.params5] at hA hval
  have hK := hA
  obtain ⟨v0, vs0, d0, ds0, p0, q0, hargs, rfl, hp, h0, r0⟩ := trodAll_cons hA
  obtain ⟨rfl, rfl, rfl⟩ := trodAll_nil r0
  obtain rfl : args = #[v0] := by cases args; simp_all
  obtain ⟨rfl, rfl⟩ := trodVars_none hV
  obtain ⟨A0, n0, c0, l0, rfl, hc0, hn0, hm0⟩ := open_spots (hval 0 22 v0 rfl rfl) h0
  clear hA0 hval0
  refine (RootSpots_walk W A0 n0 c0 l0 hc0 hn0 hm0).mono fun e W' ⟨he, hg⟩ => ?_
  subst he
  exact ⟨_, rfl, post_below (pa := p) (pv := []) hW' (fun _ _ _ => (trodAll_cons_mk (shut_bool Try.underlying4 _) trodAll_mk0))
    (fun sp hs => trodAll_stays laidOut hg sp (by kernel_rfl) hK (fun x hx => hW'.lt x (List.mem_append_left _ hx)) (fun x hx => hs x (List.mem_append_left _ hx))) (fun _ _ => rfl) rfl
    hg (ok_one (by kernel_rfl) rfl (okWide_bool_mk Try.underlying4 _))⟩

theorem RootSpots_over : Rows.rootSpotsRow.holds Try.pinned (OpenSpec.ofChange Rows.rootSpotsSpec) :=
  OpenClaim.holds_of_wide 5 Try.f5 rfl rfl rfl rfl rfl rfl rfl ⟨rfl, rfl, rfl, rfl, rfl⟩ rfl rfl rfl rfl rfl (by kernel_rfl) Try.func5 (by kernel_rfl)
    (of_decide_eq_true (by kernel_rfl)) (by unfold Func.isWrapper; first | (rw [if_pos (by decide +kernel)]; kernel_rfl) | (rw [if_neg (by decide +kernel)]; exact ⟨rfl, rfl⟩))
    (fun os started H enc _ => RootSpots_lifted os started H enc)

/-- The statement. -/
theorem RootSpots_holds : Rows.RootSpotsSaid :=
  RootSpots_over
#print axioms RootSpots_holds
end Go.Proofs.Ytdioecicakpfdaa
