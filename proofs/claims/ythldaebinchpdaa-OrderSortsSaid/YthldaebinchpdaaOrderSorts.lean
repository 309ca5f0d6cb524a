/-
  Proved: deadboltlaw05.OrderSorts returns true at every input (what is sorted has each float as often as it was, in order; the least and the greatest are its ends; another order ahead makes no difference). No condition.
-/
import Derived.Test.YthldaebinchpdaaOrderRows
import Derived.Test.YthldaebinchpdaaEnds
import Derived.Deep.RegionHeld3
namespace Go.Proofs.Ythldaebinchpdaa
open Go.ChangeShapes Go.WideShapes Go.ChangeAt Go.RowKit
set_option linter.unusedVariables false

theorem turn_is (t : Int) (m : Nat) (h : 0 < m) (hm : m ≤ 60) : ∃ T : Nat, (wrap64 (t.tmod (m : Int) + (m : Int))).tmod (m : Int) = (T : Int) ∧ T < m := by
  have h1 : t.tmod (m : Int) < m := Int.tmod_lt_of_pos t (by omega)
  have h2 : -(m : Int) < t.tmod (m : Int) := Int.lt_tmod_of_pos t (by omega)
  generalize t.tmod (m : Int) = r at *
  have e : wrap64 (r + (m : Int)) = r + m := by unfold wrap64; omega
  rw [e, Int.tmod_eq_emod_of_nonneg (by omega)]
  have h3 := Int.emod_nonneg (r + (m : Int)) (show (m : Int) ≠ 0 by omega)
  have h4 := Int.emod_lt_of_pos (r + (m : Int)) (show (0 : Int) < (m : Int) by omega)
  exact ⟨((r + (m : Int)) % (m : Int)).toNat, by omega, by omega⟩
section
variable {w : World} {A : Option Addr} {n c m : Nat} {l : List Nat} {turn : Int}
set_option maxHeartbeats 4000000 in
set_option maxRecDepth 100000 in
theorem sorts_none (hc : n ≤ c) (hn : n ≤ 9223372036854775807) (hmn : (60 < n ∧ m = 60) ∨ (n ≤ 60 ∧ m = n)) (hm : FMem w A m l) (h0 : m ≤ 0) (ht : -9223372036854775808 ≤ turn ∧ turn ≤ 9223372036854775807) :
    Calls Try.prog 5 #[.slice A n c, .int .i64 turn] w fun e w' => e = .returned (.bool true) ∧ Gr w w' := by
  have k1 := fun w => Lib.hid (few_ok A n c m hc hn hmn w)
  have k2 := Lib.hid (Sort_ok (c := c) hm (by omega) (by omega))
  obtain ⟨m0, m1⟩ := tst_yes h0
  have t1 : ((m : Int) != (m : Int)) = false := by simp
  have H0 := Lib.hid h0
  clear hm hmn h0
  go_enter Try.func5, Try.ntmps5
  go_wp2_with fail
  refine (k1 _).out.mono ?_
  rintro e w1 ⟨rfl, rfl⟩
  go_wp2_with fail
  refine k2.out.mono ?_
  rintro e w2 ⟨B, q, l', rfl, _, _, _, _, _, G⟩
  go_wp2_with fail
  refine (alive_ok _).mono ?_
  rintro e w3 ⟨rfl, rfl⟩
  go_wp2_with fail
  go_ret
  exact ⟨rfl, G⟩

set_option maxHeartbeats 1000000 in
set_option maxRecDepth 100000 in
theorem sorts_run (hc : n ≤ c) (hn : n ≤ 9223372036854775807) (hmn : (60 < n ∧ m = 60) ∨ (n ≤ 60 ∧ m = n)) (hm : FMem w A m l) (h0 : 0 < m) (ht : -9223372036854775808 ≤ turn ∧ turn ≤ 9223372036854775807) :
    Calls Try.prog 5 #[.slice A n c, .int .i64 turn] w fun e w' => e = .returned (.bool true) ∧ Gr w w' := by
  have k1 := fun w => Lib.hid (few_ok A n c m hc hn hmn w)
  have k2 := Lib.hid (Sort_ok (c := c) hm (by omega) (by omega))
  have k3 := fun (w1 : World) (g : Gr w w1) => Lib.hid (All_any (c := c) (hm.gr g) (by omega) (by omega))
  obtain ⟨m0, m1⟩ := tst_no h0
  have t1 : ((m : Int) != (m : Int)) = false := by simp
  have m60 : m ≤ 60 := by omega
  have mc : m ≤ c := by omega
  obtain ⟨i0, hi0, hz0, hz1, hz2⟩ := info_parts infoFloat
  have HM := Lib.hid hm
  have HZ := Lib.hid hz0
  have HZ1 := Lib.hid hz1
  have HZ2 := Lib.hid hz2
  have HI0 := Lib.hid hi0
  clear hz0 hz1 hz2 hi0 hmn
  have stf := run_store_float
  obtain ⟨b, off, rfl, hbl, _⟩ := hm.2.2 h0
  clear hm
  go_enter Try.func5, Try.ntmps5
  go_wp2_with fail
  refine (k1 _).out.mono ?_
  rintro e w1 ⟨rfl, rfl⟩
  go_wp2_with fail
  refine k2.out.mono ?_
  rintro e w2 ⟨B, q, s, rfl, ms, ps, ss, hq1, hq2, G⟩
  have MS := Lib.hid ms
  have PS := Lib.hid ps
  have SS := Lib.hid ss
  clear ms ps ss k1 k2
  go_wp2_with fail
  refine (alive_ok _).mono ?_
  rintro e w3 ⟨rfl, rfl⟩
  go_wp2_with fail
  obtain ⟨T, hT, hTm⟩ := turn_is turn m h0 m60
  rw [hT]
  clear hT
  have i1 : (0 : Int) ≤ (T : Int) := by omega
  have i2 : (T : Int) ≤ (m : Int) := by omega
  have i3 : (m : Int) ≤ (c : Int) := by omega
  have i4 : (T : Int) ≤ (c : Int) := by omega
  have i5 : ¬ c = T := by omega
  have o0 := own0 w3 _ rfl
  have HD := Lib.hid ((HM.out.gr (G.al (.cells #[] 22))).drop_ rfl T (by omega))
  go_region_held3 (fun _ => True) (exact trivial)
    (first
      | (go_at_call 15; refine (Sort_ok (c := mz) hmz hz1 (by omega)).mono ?_; rintro ee w6 ⟨Bt, qt, t, rfl, mt, pt, st, hqt1, hqt2, G6⟩)
      | ((refine step_append_emem _ (Value.float .f64) F64 (by rfl) (.tmp 44) (.tmp 47) 23 (by rfl) (fun _ => rfl) w3.heap.size 22 i0 (.float .f64 0) 8 Try.underlying23 HI0.out HZ.out HZ1.out HZ2.out (by rfl) v1 (m - T) (l.drop T) (by rfl) own1 _ T _ (l.take T) (by rfl) ((HM.out.gr (G.trans G4)).take_ T (by omega)) (by unfold maxLen; omega) (by omega) (by have := G4.size; omega) ?_; intro v2 w5 own2 gb2; obtain ⟨Bz, mz, rfl, hmz, hz1, hz2⟩ := own_emem (ok := F64) (l := l.drop T ++ l.take T) (by rw [List.length_append, List.length_drop, List.length_take, HM.out.len]; omega) (fun x hx => by
          rcases List.mem_append.1 hx with h | h
          · exact HM.out.all x (List.mem_of_mem_drop h)
          · exact HM.out.all x (List.mem_of_mem_take h)) own2; have G5 := G4.gb gb2 (fun k hk => (own1.lt k hk).1)))
      | ((refine step_append_emem _ (Value.float .f64) F64 (by rfl) (.tmp 40) (.tmp 43) 23 (by rfl) (fun _ => rfl) w3.heap.size 22 i0 (.float .f64 0) 8 Try.underlying23 HI0.out HZ.out HZ1.out HZ2.out (by rfl) _ 0 [] (by rfl) o0 _ (m - T) _ (l.drop T) (by rfl) HD.out (by unfold maxLen; omega) (by omega) (by simp) ?_; intro v1 w4 own1 gb1; simp only [Nat.zero_add, List.nil_append] at own1; have G4 : Gr w3 w4 := (((Gr.refl w3).al _).dr).gb gb1 (fun k hk => (o0.lt k hk).1))))
  have PT := Lib.hid (show t.Perm l from pt.trans (List.perm_append_comm.trans (by rw [List.take_append_drop])))
  have emT : m - T + T = m := by omega
  rw [emT] at mt st hqt1 ⊢
  replace G := G.trans (G5.trans G6)
  have MT := Lib.hid mt
  have ST := Lib.hid st
  have MSt := Lib.hid (MS.out.gr (G5.trans G6))
  clear mt st pt emT own1 own2 gb1 gb2 G4 G5 G6 hmz hz1 hz2 o0 HD i1 i2 i3 i4 i5 hTm
  go_wp2_with fail
  refine (k3 _ G).out.mono ?_
  rintro e w7 ⟨mn, mx, S, er, rfl, F1, g7⟩
  obtain ⟨fmn, fmx, fS, hF1⟩ := F1
  obtain ⟨_, rfl, e1, e2, _⟩ := hF1.resolve_left (by omega)
  clear hF1 k3
  obtain ⟨ee1, ee2⟩ := ends_is PS.out SS.out MS.out.len h0
  rw [ee1] at e1
  rw [ee2] at e2
  go_wp2_with fail
  generalize hW8 : w7.alloc (.cells #[.float .f64 mn, .float .f64 mx, .float .f64 S] 26) = W8
  have g8 : Gr w7 W8 := by rw [← hW8]; exact (Gr.refl w7).al _
  have X : Sm W8 w7.heap.size mn mx S := by rw [← hW8]; exact Sm.new _ _ _ _
  clear hW8
  replace MSt := Lib.hid (MSt.out.gr (g7.trans g8))
  replace MT := Lib.hid (MT.out.gr (g7.trans g8))
  replace G := G.trans (g7.trans g8)
  clear g7 g8
  obtain ⟨hx, x0, x1, x2⟩ := X
  obtain ⟨bs, os, rfl, hbs, fs0, cs0⟩ := mem_at MSt.out h0
  obtain ⟨j, hj⟩ : ∃ j, j = m - 1 := ⟨_, rfl⟩
  obtain ⟨bs', os', hbe, _, fs1, cs1⟩ := mem_at MSt.out (i := j) (by omega)
  cases hbe
  rw [Nat.add_zero] at cs0
  have z0 : (0 : Int) < (m : Int) := by omega
  have ea : ((m : Int) - 1).toNat = j := by omega
  have pa : (0 : Int) ≤ (m : Int) - 1 := by omega
  have ba : (m : Int) - 1 < (m : Int) := by omega
  have ra : IntKind.i64.wrap ((m : Int) - 1) = (m : Int) - 1 := by rw [IntKind.wrap_i64]; omega
  have hro := fun (n : Nat) => Lib.hid (Calls.quiet_of (rRows_ok (c := q) (d := qt) (w := W8.drewN n) (MSt.out.gr ((Gr.refl W8).drN n)) (MT.out.gr ((Gr.refl W8).drN n)) m60 (alike_rows PS.out PT.out SS.out ST.out MSt.out.len MT.out.len)))
  have a1 := fun w => Lib.hid (rAlike_t fmn fs0 e1 w)
  have a2 := fun w => Lib.hid (rAlike_t fmx fs1 (by rw [e2, ← hj]; rfl) w)
  have HJ := Lib.hid hj
  clear e1 e2 ee1 ee2 hj
  generalize G_ : Go.Proofs.Ythldaebinchpdaa.G s 0 = y0 at *
  generalize Go.Proofs.Ythldaebinchpdaa.G s j = y1 at *
  clear G_
  go_quiet (first | (go_at_call 14; with_reducible exact (hro _).out) | (go_at_call 17; first | (with_reducible exact Calls.quiet_of_same (a1 _).out) | (with_reducible exact Calls.quiet_of_same (a2 _).out)))
  clear hro a1 a2 cs0 cs1 x0 x1 x2 ea ra fs0 fs1 fmn fmx fS HZ HZ1 HZ2 HI0 HJ z0 hx hqt1 hqt2
  generalize hW9 : World.drewN W8 _ = W9
  have g9 : Gr W8 W9 := by rw [← hW9]; exact (Gr.refl W8).drN _
  replace MSt := Lib.hid (MSt.out.gr g9)
  replace G := G.trans g9
  have ML := Lib.hid (HM.out.gr G)
  clear hW9 g9 MT PT ST HM MS
  go_wp2_with fail
  go_loop [86] (fun iv => ∃ i : Nat, iv = .int .i64 i ∧ i ≤ m) (fun iv => m - (intOf iv).toNat)
  case atStart => exact ⟨0, rfl, Nat.zero_le _⟩
  case round =>
    obtain ⟨i, rfl, hi⟩ := hrel
    by_cases hlt : i < m
    · obtain ⟨b1, o1, hbe1, _, fi, ci⟩ := mem_at MSt.out hlt
      cases hbe1
      obtain ⟨f, hf⟩ : ∃ f, Go.Proofs.Ythldaebinchpdaa.G s i = f := ⟨_, rfl⟩
      rw [hf] at fi ci
      have HF := Lib.hid hf
      clear hf
      go_wp2_with fail
      go_loop [11, 93] (fun nv kv => ∃ (k : Nat) (z : Int), kv = .int .i64 k ∧ k ≤ m ∧ nv = .int .i64 z ∧ -60 ≤ z ∧ z ≤ 60 ∧ Hid (z = cntK (key f) s k - cntK (key f) l k)) (fun _ kv => m - (intOf kv).toNat)
      case atStart => exact ⟨0, 0, rfl, Nat.zero_le _, rfl, by omega, by omega, Lib.hid (by show (0 : Int) = 0 - 0; omega)⟩
      case round =>
        obtain ⟨k, z, rfl, hk, rfl, hz1, hz2, HZ⟩ := hrel
        by_cases hkt : k < m
        · obtain ⟨b2, o2, hbe2, _, fk, ck⟩ := mem_at MSt.out hkt
          cases hbe2
          obtain ⟨b3, o3, hbe3, _, fl, cl⟩ := mem_at ML.out hkt
          cases hbe3
          have hb1 := cntK_b (key f) s k
          have hb2 := cntK_b (key f) l k
          have y1 := fun w => Lib.hid (rAlike_ok f (Go.Proofs.Ythldaebinchpdaa.G s k) fi fk w)
          have y2 := fun w => Lib.hid (rAlike_ok f (Go.Proofs.Ythldaebinchpdaa.G l k) fi fl w)
          have zs : cntK (key f) s (k + 1) = cntK (key f) s k + if alk f (Go.Proofs.Ythldaebinchpdaa.G s k) then 1 else 0 := by
            show _ + (if key f = K s k then (1 : Int) else 0) = _
            unfold alk K
            by_cases e : key f = key (Go.Proofs.Ythldaebinchpdaa.G s k)
            · rw [if_pos e, decide_eq_true e, if_pos rfl]
            · rw [if_neg e, decide_eq_false e, if_neg (by decide)]
          have zl : cntK (key f) l (k + 1) = cntK (key f) l k + if alk f (Go.Proofs.Ythldaebinchpdaa.G l k) then 1 else 0 := by
            show _ + (if key f = K l k then (1 : Int) else 0) = _
            unfold alk K
            by_cases e : key f = key (Go.Proofs.Ythldaebinchpdaa.G l k)
            · rw [if_pos e, decide_eq_true e, if_pos rfl]
            · rw [if_neg e, decide_eq_false e, if_neg (by decide)]
          have hzz := HZ.out
          have zb : -60 < z ∨ z = -60 := by omega
          have zr : -(k : Int) ≤ z ∧ z ≤ k := by omega
          have ZS := Lib.hid zs
          have ZL := Lib.hid zl
          clear zs zl hzz hb1 hb2 zb
          generalize Go.Proofs.Ythldaebinchpdaa.G s k = x at *
          generalize Go.Proofs.Ythldaebinchpdaa.G l k = y at *
          generalize alk f x = B1 at *
          generalize alk f y = B2 at *
          cases B1 <;> cases B2
          all_goals (
            go_wp2_with fail
            refine (y1 _).out.mono ?_
            rintro e w1 ⟨rfl, rfl⟩
            go_wp2_with fail
            refine (y2 _).out.mono ?_
            rintro e w2 ⟨rfl, rfl⟩
            go_wp2_with fail
            go_round
            case rel =>
              refine ⟨k + 1, _, by go_num, by omega, rfl, by omega, by omega, Lib.hid ?_⟩
              rw [ZS.out, ZL.out]
              have := HZ.out
              simp only [if_true, if_false, Bool.false_eq_true]
              omega
            case measure => simp [intOf]; omega)
        · obtain rfl : k = m := by omega
          have hz0 : z = 0 := by
            have := HZ.out
            have := cntK_perm (key f) PS.out MSt.out.len
            omega
          subst hz0
          clear HZ hz1 hz2
          by_cases hi0 : 0 < i
          · obtain ⟨jp, hjp⟩ : ∃ q, q + 1 = i := ⟨i - 1, by omega⟩
            have zjp : (i : Int) = (jp : Int) + 1 := by omega
            have hjad : decide ((jp : Int) + 1 > 0) = true := decide_eq_true (by omega)
            have hjaz : (0 : Int) < (jp : Int) + 1 := by omega
            have pc : (0 : Int) ≤ (jp : Int) := by omega
            have bc : (jp : Int) < (k : Int) := by omega
            have rc : IntKind.i64.wrap ((jp : Int)) = (jp : Int) := by rw [IntKind.wrap_i64]; omega
            obtain ⟨b2, o2, hbe2, _, fk, ck⟩ := mem_at MSt.out (i := jp) (by omega)
            cases hbe2
            have y1 := fun w => Lib.hid (show Calls Try.prog 12 #[.float .f64 f, .float .f64 (Go.Proofs.Ythldaebinchpdaa.G s jp)] w fun e w' => e = .returned (.bool false) ∧ w' = w from by
              have h := Ahead_ok f (Go.Proofs.Ythldaebinchpdaa.G s jp) fi fk w
              rwa [show ahd f (Go.Proofs.Ythldaebinchpdaa.G s jp) = false from ahd_not.2 (by
                have := SS.out jp i (by omega) (by omega) (by omega)
                unfold K at this
                rw [HF.out] at this
                exact this)] at h)
            generalize Go.Proofs.Ythldaebinchpdaa.G s jp = x at *
            clear HF ci
            go_wp2_with fail
            refine (y1 _).out.mono ?_
            rintro e w1 ⟨rfl, rfl⟩
            go_wp2_with fail
            go_round
            case rel => exact ⟨i + 1, by rw [← zjp]; go_num, by omega⟩
            case measure => simp [intOf]; omega
          · obtain rfl : i = 0 := by omega
            go_wp2_with fail
            go_round
            case rel => exact ⟨1, by go_num, by omega⟩
            case measure => simp [intOf]; omega
    · go_wp2_with fail
      go_ret
      exact ⟨rfl, G⟩
theorem OrderSorts_walk (w : World) (A : Option Addr) (n c : Nat) (l : List Nat) (hc : n ≤ c) (hn : n ≤ 9223372036854775807) (hm : FMem w A n l) (turn : Int) (ht : -9223372036854775808 ≤ turn ∧ turn ≤ 9223372036854775807) :
    Calls Try.prog 5 #[.slice A n c, .int .i64 turn] w fun e w' => e = .returned (.bool true) ∧ Gr w w' := by
  obtain ⟨m, hmn⟩ : ∃ m, (60 < n ∧ m = 60) ∨ (n ≤ 60 ∧ m = n) := by
    by_cases h : 60 < n
    · exact ⟨60, .inl ⟨h, rfl⟩⟩
    · exact ⟨n, .inr ⟨by omega, rfl⟩⟩
  by_cases h : 0 < m
  · exact sorts_run hc hn hmn (hm.take_ m (by omega)) h ht
  · exact sorts_none hc hn hmn (hm.take_ m (by omega)) (by omega) ht
end

set_option maxRecDepth 100000 in
theorem OrderSorts_lifted (os : Os) (started : os.Started) (H : Type) (enc : TypeId × Value → H) :
    ReturnsInHanded {} Try.checked os 5 .any (Rows.orderSortsSpec.pre6 enc Try.prog Try.f5 Rows.orderSortsRow.domain false) (Rows.orderSortsSpec.post enc Try.prog Try.f5 false true false false) := by
  refine returnsInHanded_of_change (C := Try.checked) own started (by kernel_rfl) Try.func5
    (ChangeSpec.witness6 (enc := enc) (C := Try.checked) false ⟨#[], #[.slice none 0 0, .int .i64 0], []⟩ 8 (by kernel_rfl) (by kernel_rfl) (by kernel_rfl) (by kernel_rfl)) ?_
  intro W base args ds gs before hval0 hW hcnd _
  have hval : ∀ (j : Nat) t v, Try.f5.params[j]? = some t → args[j]? = some v → Value.okWide Try.prog W .any base t v := hval0
  have hW' := hW
  obtain ⟨p, q, hA0, hV, rfl, hfz, hnd⟩ := hW
  have hA : DataW.TrodAll enc Try.prog W 0 (fun _ => true) true Try.f5.params.toList args.toList ds p := hA0
  rw [Try.params5] at hA hval
  have hK := hA
  obtain ⟨v0, vs0, d0, ds0, p0, q0, hargs, rfl, hp, h0, r0⟩ := trodAll_cons hA
  obtain ⟨v1, vs1, d1, ds1, p1, q1, rfl, rfl, rfl, h1, r1⟩ := trodAll_cons r0
  obtain ⟨rfl, rfl, rfl⟩ := trodAll_nil r1
  obtain rfl : args = #[v0, v1] := by cases args; simp_all
  obtain ⟨rfl, rfl⟩ := trodVars_none hV
  obtain ⟨A0, n0, c0, l0, rfl, hc0, hn0, hm0⟩ := open_floatrow (hval 0 23 v0 rfl rfl) h0
  obtain ⟨a1, rfl, rfl, rfl, w1⟩ := open_int Try.underlying3 (hval 1 3 v1 rfl rfl) h1
  clear hA0 hval0
  refine (OrderSorts_walk W A0 n0 c0 l0 hc0 hn0 hm0 a1 (wfb w1)).mono fun e W' ⟨he, hg⟩ => ?_
  subst he
  exact ⟨_, rfl, post_below (pa := p) (pv := []) hW' (fun _ _ _ => (trodAll_cons_mk (shut_bool Try.underlying4 _) trodAll_mk0))
    (fun sp hs => trodAll_stays laidOut hg sp (by kernel_rfl) hK (fun x hx => hW'.lt x (List.mem_append_left _ hx)) (fun x hx => hs x (List.mem_append_left _ hx))) (fun _ _ => rfl) rfl
    hg (ok_one (by kernel_rfl) rfl (okWide_bool_mk Try.underlying4 _))⟩

theorem OrderSorts_over : Rows.orderSortsRow.holds Try.pinned (OpenSpec.ofChange Rows.orderSortsSpec) :=
  OpenClaim.holds_of_wide 5 Try.f5 rfl rfl rfl rfl rfl rfl rfl ⟨rfl, rfl, rfl, rfl, rfl⟩ rfl rfl rfl rfl rfl (by kernel_rfl) Try.func5 (by kernel_rfl)
    (of_decide_eq_true (by kernel_rfl)) (by unfold Func.isWrapper; first | (rw [if_pos (by decide +kernel)]; kernel_rfl) | (rw [if_neg (by decide +kernel)]; exact ⟨rfl, rfl⟩))
    (fun os started H enc _ => OrderSorts_lifted os started H enc)

/-- The statement. -/
theorem OrderSorts_holds : Rows.OrderSortsSaid :=
  OrderSorts_over
#print axioms OrderSorts_holds
end Go.Proofs.Ythldaebinchpdaa
