/-
  The law SemaOrder: for every slice of spots, any number, any slice of ints and any bool, the law's function returns true, and its arguments read behind the call as they read before. No condition.
-/
import Derived.Test.YtmkkeknimpjfoaaSemaAny
import Derived.Test.YtmkkeknimpjfoaaEnds
namespace Go.Proofs.Ytmkkeknimpjfoaa
open Go.ChangeShapes Go.WideShapes Go.ChangeAt Go.RowKit
set_option linter.unusedVariables false
set_option linter.unusedSimpArgs false

/-- Who came, in the order in which they stand. -/
def ordr (first : Bool) (l : List Int) : List Int := if first = true then l.reverse else l
theorem ordr_len (first : Bool) (l : List Int) : (ordr first l).length = l.length := by unfold ordr; split <;> simp
theorem psh_ordr (first : Bool) (l : List Int) (x : Int) : psh first (ordr first l) x = ordr first (l ++ [x]) := by
  unfold psh ordr
  cases first <;> simp
/-- What stays from loop to loop: the table beside the address is as it was. -/
structure Rest (L : List SV) (a : Int) (l : List Int) (T : List SV) : Prop where
  tab : Tab T
  got : gt T a = (0, l)
  other : ∀ b, b ≠ a → gt T b = gt L b
theorem Rest.step {L T U : List SV} {a : Int} {l r : List Int} (h : Rest L a l T) (hs : Stp T a 0 r U) : Rest L a r U :=
  ⟨hs.tab, hs.got, fun b hb => (hs.other b hb).trans (h.other b hb)⟩

set_option maxRecDepth 100000 in
set_option maxHeartbeats 8000000 in
theorem SemaOrder_walk (w : World) (A0 : Option Addr) (n0 c0 : Nat) (L0 : List SV) (hc : n0 ≤ c0) (hn : n0 ≤ 9223372036854775807) (hm0 : SMem w A0 n0 L0) (addr : Int) (hadr : B64 addr) (A2 : Option Addr) (n2 c2 : Nat) (l2 : List Int) (hc2 : n2 ≤ c2) (hn2 : n2 ≤ 9223372036854775807) (hm2 : IMem w A2 n2 l2) (first : Bool) :
    Calls Try.prog 6 #[.slice A0 n0 c0, .int .i64 addr, .slice A2 n2 c2, .bool first] w fun e w' => e = .returned (.bool true) ∧ Gr w w' := by
  obtain ⟨i0, hi0, hz0, hz1, hz2⟩ := info_parts infoInt
  have HZ := Lib.hid hz0
  have HZ1 := Lib.hid hz1
  have HZ2 := Lib.hid hz2
  have HI0 := Lib.hid hi0
  have CF := Lib.hid (few_is (c := c0) hm0 hc hn)
  have hl70 := fewL_len L0
  obtain ⟨L, hL⟩ : ∃ L, fewL L0 = L := ⟨_, rfl⟩
  rw [hL] at CF hl70
  clear hL hm0 hc hn hz0 hz1 hz2 hi0
  obtain ⟨N, hN⟩ : ∃ N, L.length = N := ⟨_, rfl⟩
  rw [hN] at CF hl70
  have CAL := Lib.hid alive_ok
  have HAD := Lib.hid hadr
  have HI := Lib.hid hm2
  obtain ⟨bM, hbM⟩ := yes_no (Tab L ∧ IsKey addr)
  obtain ⟨bE, hbE⟩ := yes_no (gt L addr = (0, []))
  have HBM := Lib.hid hbM
  have HBE := Lib.hid hbE
  obtain ⟨M, hM⟩ : ∃ M, (min (n2 : Int) 20).toNat = M := ⟨_, rfl⟩
  have hMn : M ≤ n2 := by omega
  have hM20 : M ≤ 20 := by omega
  have hi : min (n2 : Int) 20 = (M : Int) := by omega
  have HMM := Lib.hid hM
  have hM0 : (0 : Int) ≤ (M : Int) := by omega
  have hM1 : (M : Int) ≤ (c2 : Int) := by omega
  clear hN hadr hm2 hbM hbE hM
  go_enter Try.func6, Try.ntmps6
  go_wp2_with fail
  with_reducible refine CF.out.mono ?_
  rintro ee w1 ⟨B, m, rfl, hM', hle, hmx, h1⟩
  have CM := Lib.hid (rMay_is (c := m) hM' (by omega) HBM.out)
  have HM := Lib.hid hM'
  have HLE := Lib.hid hle
  have HMX := Lib.hid hmx
  have G1 := Lib.hid h1
  clear CF hM' hle hmx h1
  cases bM with
  | false =>
    go_wp2_with fail
    with_reducible refine CM.out.mono ?_
    rintro ee w2 ⟨rfl, h2⟩
    have G2 := Lib.hid (G1.out.trans h2)
    clear h2
    go_wp2_with fail
    with_reducible refine (CAL.out _).mono ?_
    rintro ee w3 ⟨rfl, h3⟩
    have G3 := Lib.hid (G2.out.trans h3)
    clear h3
    go_wp2_with fail
    go_ret
    exact ⟨rfl, G3.out⟩
  | true =>
    obtain ⟨ht, hk⟩ := HBM.out.1 rfl
    have HTB := Lib.hid ht
    have HKY := Lib.hid hk
    have KG := Lib.hid (fun W (g : Gr w1 W) => rgot_is (c := m) (HM.out.gr g) (by omega) HAD.out ht.2)
    have KE := Lib.hid (fun W (B' : Option Addr) (m' d' : Nat) (hok : SV.ok W ⟨addr, (gt L addr).1, B', m', d', (gt L addr).2⟩) => rempty_is hok (v := bE) (by
      rw [HBE.out]
      unfold SNil
      constructor
      · intro h
        show (gt L addr).1 = 0 ∧ (gt L addr).2 = []
        rw [h]
        exact ⟨rfl, rfl⟩
      · rintro ⟨e1, e2⟩
        have e1' : (gt L addr).1 = 0 := e1
        have e2' : (gt L addr).2 = [] := e2
        rw [← e1', ← e2']))
    clear ht hk
    go_wp2_with fail
    with_reducible refine CM.out.mono ?_
    rintro ee w2 ⟨rfl, h2⟩
    have V2 := Lib.hid h2
    clear h2 CM
    go_wp2_with fail
    with_reducible refine (KG.out _ V2.out).mono ?_
    rintro ee w3 ⟨B3, m3, d3, rfl, hok3, h3⟩
    have V3 := Lib.hid (V2.out.trans h3)
    have KE3 := Lib.hid (KE.out _ B3 m3 d3 hok3 w3)
    clear h3 hok3 KG KE V2
    go_wp2_with fail
    with_reducible refine KE3.out.mono ?_
    rintro ee w4 ⟨rfl, h4⟩
    have V4 := Lib.hid (V3.out.trans h4)
    have G4 := Lib.hid (G1.out.trans V4.out)
    clear h4 KE3 V3
    cases bE with
    | false =>
      go_wp2_with fail
      with_reducible refine (CAL.out _).mono ?_
      rintro ee w5 ⟨rfl, h5⟩
      have G5 := Lib.hid (G4.out.trans h5)
      clear h5
      go_wp2_with fail
      go_ret
      exact ⟨rfl, G5.out⟩
    | true =>
      have hgt := HBE.out.1 rfl
      have HR0 : Hid (Rest L addr (ordr first []) L) := Lib.hid ⟨HTB.out, by rw [hgt]; unfold ordr; cases first <;> rfl, fun b _ => rfl⟩
      have HGT := Lib.hid hgt
      clear hgt HBE HBM
      go_wp2_with fail
      go_loopw [9, 10, 42] (fun V9 V10 i wr => ∃ (k K d N' m' : Nat) (C B' : Option Addr) (T : List SV) (ls : List Int), k ≤ M ∧ K ≤ k ∧ i = .int .i64 (k : Int) ∧ V9 = .slice C K d ∧ V10 = .slice B' N' m' ∧ Hid (IOwn w1.heap.size wr C K d ls) ∧ Hid (SMem wr B' N' T) ∧ Hid (N' ≤ m') ∧ Hid (m' ≤ 9223372036854775807) ∧ Hid (Rest L addr (ordr first ls) T) ∧ Hid (Far (C.map (·.block)) B' N' T) ∧ Hid (Gr w1 wr)) (fun _ _ i _ => M - (intOf i).toNat)
      case atStart => exact ⟨0, 0, 0, N, m, none, B, L, [], Nat.zero_le _, Nat.le_refl _, rfl, rfl, rfl, Lib.hid OMem.nil_, Lib.hid (HM.out.gr V4.out), HLE, HMX, HR0, Lib.hid Far.none_, V4⟩
      case round =>
        clear V4 G4 HR0
        obtain ⟨k, K, d, N', m', C, B', T, ls, hk, hKk, rfl, rfl, rfl, HO, HT, HLE', HMX', HRS, HFAR, HG⟩ := hrel
        by_cases hlt : k < M
        · obtain ⟨b, off, y, rfl, hbl, hy, hiy, cy⟩ := (HI.out.gr (G1.out.trans HG.out)).at_ (show k < n2 by omega)
          have CQ := Lib.hid (Acquire_own HT.out HLE'.out HMX'.out HAD.out hiy (first := first))
          have k0 : (0 : Int) ≤ (k : Int) := by omega
          have k1 : (k : Int) < (M : Int) := by omega
          have HIY := Lib.hid hiy
          clear hy hiy hbl
          go_wp2_with fail
          with_reducible refine CQ.out.mono ?_
          rintro ee w5 ⟨B5, m5, N5, is, e, rfl, T5, hT5l, hT5, hle5, hmx5, hR5, h5, hso5⟩
          by_cases he : e = 0
          · subst he
            obtain ⟨_, _, _, hy0, hyn, hcase⟩ := hR5.plain.resolve_left (fun h => h.1 rfl)
            obtain ⟨_, _, rfl, hS5⟩ := hcase.resolve_left (fun h => by have h1 := h.1; rw [HRS.out.got] at h1; exact absurd (show (0 : Int) < 0 from h1) (by decide))
            rw [HRS.out.got, psh_ordr] at hS5
            have HRS5 := Lib.hid (HRS.out.step hS5)
            have hyneg : ¬ y < 0 := by omega
            have far5 := Lib.hid (hso5.far (g := C.map (·.block)) fun k hk => (HO.out.lt k hk).2)
            have HT5 := Lib.hid (hT5.gr ((Gr.refl w5).al (.cells #[.int .i64 y] 3)))
            have HO5 := Lib.hid (HO.out.gr (h5.al (.cells #[.int .i64 y] 3)))
            have HG5 := Lib.hid ((HG.out.trans h5).al (.cells #[.int .i64 y] 3))
            have HLE5 := Lib.hid hle5
            have HMX5 := Lib.hid hmx5
            clear hT5l hT5 hle5 hmx5 hR5 h5 hso5 hcase hS5 hyn hy0 CQ cy
            go_wp2_with (at_builtin; refine Mark.stop ?_)
            refine Mark.go ?_
            refine wpList_append_omem2 _ (Value.int .i64) B64 rfl (.tmp 63) (.tmp 65) 38 rfl (fun _ => rfl) w1.heap.size 3 i0 (.int .i64 0) 8 Try.underlying38 HI0.out HZ.out HZ1.out HZ2.out rfl C K d _ rfl HO5.out _ 1 1 [y] rfl (emem_one' _ y HIY.out _ (by simp)) (by unfold maxLen; omega) (by omega) HG5.out.size ?_
            intro C6 d6 w6 own6 gb6 at6
            have HG6 := Lib.hid (HG5.out.gb gb6 (fun k hk => (HO5.out.lt k hk).1))
            have HT6 := Lib.hid (Far.kept HT5.out far5.out gb6)
            have far6 : Hid (Far (C6.map (·.block)) B5 N5 T5) := Lib.hid fun k hk => by
              rcases at6 k hk with h | h
              · exact far5.out k h
              · exact far_new HT5.out h k rfl
            have HO6 := Lib.hid own6
            clear gb6 at6 own6
            go_wp2_with fail
            go_roundw
            case rel => exact ⟨k + 1, K + 1, d6, N5, m5, C6, B5, T5, ls ++ [y], by omega, by omega, by go_num, rfl, rfl, HO6, HT6, HLE5, HMX5, HRS5, far6, HG6⟩
            case measure => simp [intOf]; omega
          · have hne : (e == 0) = false := beq_eq_false_iff_ne.2 he
            have hbn : (e != 0) = true := by simp [bne, hne]
            have HG5 := Lib.hid (HG.out.trans h5)
            have HT5 := Lib.hid (HT.out.gr h5)
            have HO5 := Lib.hid (HO.out.gr h5)
            clear he hT5l hT5 hle5 hmx5 hR5 h5 hso5 CQ cy
            go_wp2_with fail
            go_roundw
            case rel => exact ⟨k + 1, K, d, N', m', C, B', T, ls, by omega, by omega, by go_num, rfl, rfl, HO5, HT5, HLE', HMX', HRS, HFAR, HG5⟩
            case measure => simp [intOf]; omega
        · obtain rfl : k = M := by omega
          have HCM := Lib.hid HO.out.mem
          have hlsK : ls.length = K := HO.out.mem.1
          have HLK := Lib.hid hlsK
          have HR1 : Hid (Rest L addr ((ordr first ls).drop 0) T) := Lib.hid (by rw [List.drop_zero]; exact HRS.out)
          clear hlsK HO HFAR HRS
          obtain ⟨wo, rfl⟩ : ∃ x, x = wr := ⟨_, rfl⟩
          go_wp2_with fail
          go_loopw [10, 70] (fun V10 i wr => ∃ (j N' m' : Nat) (B' : Option Addr) (T : List SV), j ≤ K ∧ i = .int .i64 (j : Int) ∧ V10 = .slice B' N' m' ∧ Hid (SMem wr B' N' T) ∧ Hid (N' ≤ m') ∧ Hid (m' ≤ 9223372036854775807) ∧ Hid (Rest L addr ((ordr first ls).drop j) T) ∧ Hid (Gr wo wr)) (fun _ i _ => K - (intOf i).toNat)
          case atStart => exact ⟨0, N', m', B', T, Nat.zero_le _, rfl, rfl, HT, HLE', HMX', HR1, Lib.hid (Gr.refl _)⟩
          case round =>
            clear HT HLE' HMX' HR1
            obtain ⟨j, N', m', B', T, hj, rfl, rfl, HT, HLE', HMX', HRS, HGO⟩ := hrel
            by_cases hlt2 : j < K
            · obtain ⟨bc, oc, y, rfl, hbl, hy, hiy, cy⟩ := (HCM.out.gr HGO.out).at_ hlt2
              obtain ⟨p, hp⟩ : ∃ p, K - 1 - j = p := ⟨_, rfl⟩
              have hpK : p < K := by omega
              obtain ⟨bc', oc', z, e', hbl', hz, hiz, cz⟩ := (HCM.out.gr HGO.out).at_ hpK
              cases e'
              have hv : (ordr first ls)[j]? = some (if first = true then z else y) := by
                unfold ordr
                cases first
                · simpa using hy
                · have h1 : ls.reverse[j]? = ls[ls.length - 1 - j]? := List.getElem?_reverse (by rw [HLK.out]; exact hlt2)
                  rw [HLK.out, hp] at h1
                  simpa using h1.trans hz
              obtain ⟨hjl, hje⟩ := List.getElem?_eq_some_iff.1 hv
              have hdrop : (ordr first ls).drop j = (if first = true then z else y) :: (ordr first ls).drop (j + 1) := by rw [List.drop_eq_getElem_cons hjl, hje]
              have CQ := Lib.hid (Release_own HT.out HLE'.out HMX'.out HAD.out)
              have j0 : (0 : Int) ≤ (j : Int) := by omega
              have j1 : (j : Int) < (K : Int) := by omega
              have HDR := Lib.hid hdrop
              have HP := Lib.hid hp
              clear hy hz hv hjl hje hdrop hiy hiz hbl'
              go_wp2_with fail
              with_reducible refine CQ.out.mono ?_
              rintro ee w5 ⟨B5, m5, N5, x, e, rfl, T5, hT5l, hT5, hle5, hmx5, hR5, h5, hso5⟩
              have hgot := HRS.out.got
              rw [HDR.out] at hgot
              obtain rfl : e = 0 := hR5.must HRS.out.tab HKY.out (by rw [hgot]; exact (by decide : (0 : Int) < 2147483647)) (.inl ((gt_has HRS.out.tab.2).2 (by rw [hgot]; intro h; rw [Prod.mk.injEq] at h; exact absurd h.2 (by simp))))
              obtain ⟨_, _, _, hcase⟩ := hR5.plain.resolve_left (fun h => h.1 rfl)
              obtain ⟨r, _, hl, hS⟩ := hcase.resolve_right (fun h => by have h1 := h.1; rw [hgot] at h1; simp at h1)
              rw [hgot] at hl
              simp only [List.cons.injEq] at hl
              obtain ⟨hx, rfl⟩ := hl
              have HRS5 := Lib.hid (HRS.out.step hS)
              have HGO5 := Lib.hid (HGO.out.trans h5)
              have HT5 := Lib.hid hT5
              have HLE5 := Lib.hid hle5
              have HMX5 := Lib.hid hmx5
              have cy5 : w5.cell? ⟨bc, oc + j, none⟩ = some (.int .i64 y) := (h5.cell (p := ⟨bc, oc + j, none⟩) hbl).trans cy
              have cz5 : w5.cell? ⟨bc, oc + p, none⟩ = some (.int .i64 z) := (h5.cell (p := ⟨bc, oc + p, none⟩) hbl).trans cz
              clear hT5l hT5 hle5 hmx5 hR5 h5 hso5 hcase hS hgot CQ cy cz hbl HDR
              cases first with
              | false =>
                have hx' : y = x := hx
                subst hx'
                have hyy : (y != y) = false := by simp
                clear hx
                go_wp2_with fail
                go_roundw
                case rel => exact ⟨j + 1, N5, m5, B5, T5, by omega, by go_num, rfl, HT5, HLE5, HMX5, HRS5, HGO5⟩
                case measure => simp [intOf]; omega
              | true =>
                have hx' : z = x := hx
                subst hx'
                have hzz : (z != z) = false := by simp
                clear hx
                have hK1 : (K : Int) - 1 - (j : Int) = (p : Int) := by have := HP.out; omega
                go_wp2_with fail
                go_roundw
                case rel => exact ⟨j + 1, N5, m5, B5, T5, by omega, by go_num, rfl, HT5, HLE5, HMX5, HRS5, HGO5⟩
                case measure => simp [intOf]; omega
            · obtain rfl : j = K := by omega
              have hsame : T.map SV.pl = L.map SV.pl := gt_ext HRS.out.tab.2 HTB.out.2 fun b => by
                by_cases hb : b = addr
                · rw [hb, HRS.out.got, HGT.out, List.drop_of_length_le (by rw [ordr_len, HLK.out]; exact Nat.le_refl _)]
                · exact HRS.out.other b hb
              have hN' : N' ≤ 9223372036854775807 := Nat.le_trans HLE'.out HMX'.out
              have V5 := Lib.hid (HG.out.trans HGO.out)
              have KSM := Lib.hid (fun W (g : Gr wr W) => rSame_is (c := m') (d := m) (HT.out.gr g) (HM.out.gr (V5.out.trans g)) hN' (v := true) ⟨fun _ => hsame, fun _ => rfl⟩)
              clear hsame hN'
              go_wp2_with fail
              with_reducible refine (CAL.out _).mono ?_
              rintro ee w6 ⟨rfl, h6⟩
              have G6 := Lib.hid (G1.out.trans (V5.out.trans h6))
              have KS6 := Lib.hid (KSM.out _ h6)
              clear h6
              go_wp2_with fail
              with_reducible refine KS6.out.mono ?_
              rintro ee w7 ⟨rfl, h7⟩
              have G7 := Lib.hid (G6.out.trans h7)
              clear h7
              go_wp2_with fail
              go_ret
              exact ⟨rfl, G7.out⟩
set_option maxRecDepth 100000 in
theorem SemaOrder_lifted (os : Os) (started : os.Started) (H : Type) (enc : TypeId × Value → H) :
    ReturnsInHanded {} Try.checked os 6 .any (Rows.semaOrderSpec.pre6 enc Try.prog Try.f6 Rows.semaOrderRow.domain false) (Rows.semaOrderSpec.post enc Try.prog Try.f6 false true false false) := by
  refine returnsInHanded_of_change (C := Try.checked) own started (by kernel_rfl) Try.func6
    (ChangeSpec.witness6 (enc := enc) (C := Try.checked) false ⟨#[], #[.slice none 0 0, .int .i64 0, .slice none 0 0, .bool false], []⟩ 8 (by kernel_rfl) (by kernel_rfl) (by kernel_rfl) (by kernel_rfl)) ?_
  intro W base args ds gs before hval0 hW hcnd _
  have hval : ∀ (j : Nat) t v, Try.f6.params[j]? = some t → args[j]? = some v → Value.okWide Try.prog W .any base t v := hval0
  have hW' := hW
  obtain ⟨p, q, hA0, hV, rfl, hfz, hnd⟩ := hW
  have hA : DataW.TrodAll enc Try.prog W 0 (fun _ => true) true Try.f6.params.toList args.toList ds p := hA0
  rw [Try.params6] at hA hval
  have hK := hA
  obtain ⟨v0, vs0, d0, ds0, p0, q0, hargs, rfl, hp, h0, r0⟩ := trodAll_cons hA
  obtain ⟨v1, vs1, d1, ds1, p1, q1, rfl, rfl, rfl, h1, r1⟩ := trodAll_cons r0
  obtain ⟨v2, vs2, d2, ds2, p2, q2, rfl, rfl, rfl, h2, r2⟩ := trodAll_cons r1
  obtain ⟨v3, vs3, d3, ds3, p3, q3, rfl, rfl, rfl, h3, r3⟩ := trodAll_cons r2
  obtain ⟨rfl, rfl, rfl⟩ := trodAll_nil r3
  obtain rfl : args = #[v0, v1, v2, v3] := by cases args; simp_all
  obtain ⟨rfl, rfl⟩ := trodVars_none hV
  obtain ⟨A0, n0, c0, l0, rfl, hc0, hn0, hm0⟩ := open_spots (hval 0 22 v0 rfl rfl) h0
  obtain ⟨a1, rfl, rfl, rfl, w1⟩ := open_int Try.underlying3 (hval 1 3 v1 rfl rfl) h1
  obtain ⟨A2, n2, c2, l2, rfl, hc2, hn2, hm2⟩ := open_ints (hval 2 38 v2 rfl rfl) h2
  obtain ⟨a3, rfl, rfl, rfl⟩ := open_bool Try.underlying4 (hval 3 4 v3 rfl rfl) h3
  clear hA0 hval0
  refine (SemaOrder_walk W A0 n0 c0 l0 hc0 hn0 hm0 a1 (wfb w1) A2 n2 c2 l2 hc2 hn2 hm2 a3).mono fun e W' ⟨he, hg⟩ => ?_
  subst he
  exact ⟨_, rfl, post_below (pa := p) (pv := []) hW' (fun _ _ _ => (trodAll_cons_mk (shut_bool Try.underlying4 _) trodAll_mk0))
    (fun sp hs => trodAll_stays laidOut hg sp (by kernel_rfl) hK (fun x hx => hW'.lt x (List.mem_append_left _ hx)) (fun x hx => hs x (List.mem_append_left _ hx))) (fun _ _ => rfl) rfl
    hg (ok_one (by kernel_rfl) rfl (okWide_bool_mk Try.underlying4 _))⟩

theorem SemaOrder_over : Rows.semaOrderRow.holds Try.pinned (OpenSpec.ofChange Rows.semaOrderSpec) :=
  OpenClaim.holds_of_wide 6 Try.f6 rfl rfl rfl rfl rfl rfl rfl ⟨rfl, rfl, rfl, rfl, rfl⟩ rfl rfl rfl rfl rfl (by kernel_rfl) Try.func6 (by kernel_rfl)
    (of_decide_eq_true (by kernel_rfl)) (by unfold Func.isWrapper; first | (rw [if_pos (by decide +kernel)]; kernel_rfl) | (rw [if_neg (by decide +kernel)]; exact ⟨rfl, rfl⟩))
    (fun os started H enc _ => SemaOrder_lifted os started H enc)

/-- The statement. -/
theorem SemaOrder_holds : Rows.SemaOrderSaid :=
  SemaOrder_over
#print axioms SemaOrder_holds
end Go.Proofs.Ytmkkeknimpjfoaa
