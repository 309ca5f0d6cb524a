/-
  Proved: deadboltlaw07.LineOrder returns true at every input (whoever comes last is popped behind all that were there, and whoever comes first ahead of them, and those keep their order). No condition.
-/
import Derived.Test.YtchfdgoogfidlaaLinePlaces
namespace Go.Proofs.Ytchfdgoogfidlaa
open Go.ChangeShapes Go.WideShapes Go.ChangeAt Go.RowKit
set_option linter.unusedVariables false

/-- (a % n + n) % n. -/
theorem mods2 (a : Int) (n : Int) (h : 0 < n) (hn : n ≤ 1000000) : ∃ (t u p : Int), a.tmod n = t ∧ IntKind.i64.wrap (t + n) = u ∧ u.tmod n = p ∧ 0 ≤ p ∧ p < n := by
  have h1 : a.tmod n < n := Int.tmod_lt_of_pos a (by omega)
  have h2 : -n < a.tmod n := Int.lt_tmod_of_pos a (by omega)
  generalize a.tmod n = t at *
  have hu : IntKind.i64.wrap (t + n) = t + n := wrap_id (by omega) (by omega)
  exact ⟨t, t + n, (t + n).tmod n, rfl, hu, rfl, Int.tmod_nonneg n (by omega), Int.tmod_lt_of_pos _ (by omega)⟩
set_option maxHeartbeats 400000 in
set_option maxRecDepth 100000 in
theorem order_no {w : World} {A B : Option Addr} {n c m p d : Nat} {l : List Int} (hc : n ≤ c) (hn : n ≤ 9223372036854775807) (hmn : (70 < n ∧ m = 70) ∨ (n ≤ 70 ∧ m = n)) (hm : IMem w A m l) (h : ¬ Ln l) :
    Calls Try.prog 4 #[.slice A n c, .slice B p d] w fun e w' => e = .returned (.bool true) ∧ Gr w w' := by
  have k1 := fun w => Lib.hid (few_ok A n c m hc hn hmn w)
  have k2 := Lib.hid (Right_is (c := c) (v := false) hm (by omega) (by omega) (by simpa using h))
  clear hm hmn h
  go_enter Try.func4, Try.ntmps4
  go_wp2_with fail
  with_reducible refine (k1 _).out.mono ?_
  rintro e w1 ⟨rfl, rfl⟩
  go_wp2_with fail
  with_reducible refine k2.out.mono ?_
  rintro e w1 ⟨rfl, rfl⟩
  go_wp2_with fail
  with_reducible refine (alive7_ok _).mono ?_
  rintro e w2 ⟨rfl, hb2⟩
  go_wp2_with fail
  go_ret
  exact ⟨rfl, hb2⟩
/-- A line, a row ahead of it and one behind. -/
structure Ord (w0 : World) (l : List Int) (w : World) (fr bk : List Int) (fa : Option Addr) (fn fc : Nat) (ka : Option Addr) (kn kc : Nat) (na : Option Addr) (t nc : Nat) : Prop where
  ln : Ln (fr ++ l ++ bk)
  mf : IOwn w0.heap.size w fa fn fc fr
  mb : IOwn w0.heap.size w ka kn kc bk
  mn : IMem w na t (fr ++ l ++ bk)
  lt : t ≤ nc
  off1 : Off na ka
  off2 : Off fa ka
  gr : Gr w0 w
set_option maxHeartbeats 800000 in
set_option maxRecDepth 100000 in
theorem order_run {w : World} {A : Option Addr} {n c m : Nat} {l : List Int} (hc : n ≤ c) (hn : n ≤ 9223372036854775807) (hmn : (70 < n ∧ m = 70) ∨ (n ≤ 70 ∧ m = n)) (hm : IMem w A m l) (hl : Ln l)
    {B : Option Addr} {p d q : Nat} {r : List Int} (hd : p ≤ d) (hp : p ≤ 9223372036854775807) (hpq : (20 < p ∧ q = 20) ∨ (p ≤ 20 ∧ q = p)) (hr : IMem w B q r) :
    Calls Try.prog 4 #[.slice A n c, .slice B p d] w fun e w' => e = .returned (.bool true) ∧ Gr w w' := by
  have k1 := fun w => Lib.hid (few_ok A n c m hc hn hmn w)
  have k2 := Lib.hid (Right_is (c := c) (v := true) hm (by omega) (by omega) (by simpa using hl))
  have m64 : m ≤ 64 := by rw [← hm.1]; exact hl.1
  have mc : m ≤ c := by omega
  have HM1 : (if (20 : Int) < (p : Int) then (20 : Int) else (p : Int)) = (q : Int) := by split <;> omega
  have q20 : q ≤ 20 := by omega
  have qd : (q : Int) ≤ (d : Int) := by omega
  have q0 : (0 : Int) ≤ (q : Int) := by omega
  have HM := Lib.hid hm
  have HR := Lib.hid hr
  have HL := Lib.hid hl
  obtain ⟨i0, hi0, hz0, hz1, hz2⟩ := info_parts infoInt
  have HZ := Lib.hid hz0
  have HZ1 := Lib.hid hz1
  have HZ2 := Lib.hid hz2
  have HI0 := Lib.hid hi0
  clear hz0 hz1 hz2 hi0 hm hr hl hmn hpq
  go_enter Try.func4, Try.ntmps4
  go_wp2_with fail
  with_reducible refine (k1 _).out.mono ?_
  rintro e w1 ⟨rfl, rfl⟩
  go_wp2_with fail
  with_reducible refine k2.out.mono ?_
  rintro e w1 ⟨rfl, rfl⟩
  clear k1 k2
  go_wp2_with fail
  go_loopw [5, 6, 7, 32] (fun F K N i wr => ∃ (j : Nat) (fr bk : List Int) (fa : Option Addr) (fn fc : Nat) (ka : Option Addr) (kn kc : Nat) (na : Option Addr) (t nc : Nat), i = .int .i64 (j : Int) ∧ j ≤ q ∧ F = .slice fa fn fc ∧ K = .slice ka kn kc ∧ N = .slice na t nc ∧ Hid (Ord w1 l wr fr bk fa fn fc ka kn kc na t nc)) (fun _ _ _ i _ => q - (intOf i).toNat)
  case atStart => exact ⟨0, [], [], none, 0, 0, none, 0, 0, _, _, _, rfl, Nat.zero_le _, rfl, rfl, rfl, Lib.hid ⟨by simpa using HL.out, OMem.nil_, OMem.nil_, by simpa using HM.out, mc, Off.nil _, Off.nil _, Gr.refl _⟩⟩
  case round =>
    obtain ⟨j, fr, bk, fa, fn, fc, ka, kn, kc, na, t, nc, rfl, hj, rfl, rfl, rfl, HO⟩ := hrel
    have t64 : t ≤ 64 := by rw [← HO.out.mn.1]; exact HO.out.ln.1
    have tnc := HO.out.lt
    by_cases hlt : j < q
    · obtain ⟨b0, off, x, rfl, hbl, hx, hix, cx⟩ := (HR.out.gr HO.out.gr).at_ hlt
      obtain ⟨x1, x2, y, e1, e2, e3, y0, y1⟩ := mods2 x 1000 (by decide) (by decide)
      obtain ⟨j2, ej⟩ : ∃ j2, (j : Int).tmod 2 = j2 := ⟨_, rfl⟩
      obtain ⟨fb, efb⟩ : ∃ fb, (j2 == 1) = fb := ⟨_, rfl⟩
      have by_ : B64 y := by unfold B64; omega
      obtain ⟨T2, e, hPu⟩ := PushR.any (fr ++ l ++ bk) y fb
      have kp := Lib.hid (Push_is (c := nc) HO.out.mn HO.out.lt (by omega) by_ hPu)
      obtain ⟨t2, ht2⟩ : ∃ t2, t2 = T2.length := ⟨_, rfl⟩
      rw [← ht2] at kp
      have HT2 := Lib.hid ht2
      clear ht2
      have hPu := Lib.hid hPu
      clear hx
      go_wp2_with fail
      with_reducible refine kp.out.mono ?_
      rintro e w2 ⟨C2, d2, rfl, own2, g2⟩
      have O2 := Lib.hid own2
      have G2 := Lib.hid g2
      clear own2 g2 kp cx
      by_cases he : e = 0
      · subst he
        have t0 : ((0 : Int) == 7) = false := by decide
        obtain ⟨-, hLn, hx, h64, hT, -⟩ := (hPu.out.resolve_left (fun h => by have := h.2.2; omega)).resolve_left (fun h => by have := h.2.2.2.2; omega) |>.resolve_left (fun h => by have := h.2.2.2.2.2; omega)
        have hC2 : ∀ k, C2.map (·.block) = some k → wr.heap.size ≤ k ∧ k < w2.heap.size := O2.out.lt
        have gA := (Gr.refl w2).al (.cells #[.int .i64 y] 3)
        have G3 := Lib.hid (HO.out.gr.trans G2.out)
        have f64 : fn ≤ 64 ∧ kn ≤ 64 := by
          have h1 := HO.out.mf.mem.1
          have h2 := HO.out.mb.mem.1
          simp only [List.length_append] at h64
          omega
        have hy := hPu.out
        cases fb
        · rw [if_neg (by decide)] at hT
          have hLn2 := ln_more1 hLn y0 hx h64
          go_wp2_with (at_builtin; refine Mark.stop ?_)
          refine Mark.go ?_
          refine wpList_append_omem2 _ (Value.int .i64) B64 rfl (.tmp 66) (.tmp 68) 22 rfl (fun _ => rfl) w1.heap.size 3 i0 (.int .i64 0) 8 Try.underlying22 HI0.out HZ.out HZ1.out HZ2.out rfl ka kn kc bk rfl ((HO.out.mb.gr G2.out).gr gA) _ 1 1 [y] rfl (emem_one' _ y by_ _ rfl) (by unfold maxLen; omega) (by omega) (G3.out.al _).size ?_
          intro A3 c3 w3 own3 gb3 hA3
          have HO3 : Hid (Ord w1 l w3 fr (bk ++ [y]) fa fn fc A3 (kn + 1) c3 C2 t2 d2) := Lib.hid (by
            have hoff := Off.new HO.out.mb (fun k hk => (hC2 k hk).1)
            have e : fr ++ l ++ (bk ++ [y]) = fr ++ l ++ bk ++ [y] := by simp
            exact {
              ln := e ▸ hLn2
              mf := (HO.out.mf.gr (G2.out.trans gA)).gb2 gb3 HO.out.off2
              mb := own3
              mn := by rw [e, ← hT]; exact (O2.out.mem.gr gA).gb gb3 hoff
              lt := O2.out.le
              off1 := hoff.step (B := (w2.alloc (.cells #[.int .i64 y] 3)).heap.size) (fun k hk => by have := hC2 k hk; simp; omega) hA3
              off2 := HO.out.off2.step (B := (w2.alloc (.cells #[.int .i64 y] 3)).heap.size) (fun k hk => by have := (HO.out.mf.lt k hk).2; have := (G2.out.trans gA).size; omega) hA3
              gr := (G3.out.al _).gb gb3 (fun k hk => (HO.out.mb.lt k hk).1) })
          clear own3 gb3 hA3 HO hy hPu hT hLn2 gA G3 O2 hC2
          go_wp2_with fail
          go_roundw
          case rel => exact ⟨j + 1, fr, bk ++ [y], fa, fn, fc, A3, kn + 1, c3, C2, t2, d2, by go_num, by omega, rfl, rfl, rfl, HO3⟩
          case measure => simp [intOf]; omega
        · rw [if_pos rfl] at hT
          have hLn2 := ln_more0 hLn y0 hx h64
          go_wp2_with (at_builtin; refine Mark.stop ?_)
          refine Mark.go ?_
          refine wpList_append_omem2 _ (Value.int .i64) B64 rfl (.tmp 63) (.tmp 64) 22 rfl (fun _ => rfl) w2.heap.size 3 i0 (.int .i64 0) 8 Try.underlying22 HI0.out HZ.out HZ1.out HZ2.out rfl _ 1 1 [y] rfl (omem_one w2 y by_ 3 (Nat.le_refl _)) fa fn fc fr rfl ((HO.out.mf.mem.gr G2.out).gr gA) (by unfold maxLen; omega) (by omega) gA.size ?_
          intro A3 c3 w3 own3 gb3 hA3
          have G4 : Gr w2 w3 := gA.gb gb3 (fun k hk => by cases hk; exact Nat.le_refl _)
          have HO3 : Hid (Ord w1 l w3 ([y] ++ fr) bk A3 (1 + fn) c3 ka kn kc C2 t2 d2) := Lib.hid (by
            have hoff := Off.new HO.out.mb (fun k hk => (hC2 k hk).1)
            have e : [y] ++ fr ++ l ++ bk = y :: (fr ++ l ++ bk) := by simp
            exact {
              ln := e ▸ hLn2
              mf := own3.low G3.out.size
              mb := (HO.out.mb.gr G2.out).gr G4
              mn := by rw [e, ← hT]; exact O2.out.mem.gr G4
              lt := O2.out.le
              off1 := hoff
              off2 := Off.new (HO.out.mb.gr G2.out) (fun k hk => (own3.lt k hk).1)
              gr := G3.out.trans G4 })
          clear own3 gb3 hA3 HO hy hPu hT hLn2 gA G3 O2 hC2 G4
          go_wp2_with fail
          go_roundw
          case rel => exact ⟨j + 1, [y] ++ fr, bk, A3, 1 + fn, c3, ka, kn, kc, C2, t2, d2, by go_num, by omega, rfl, rfl, rfl, HO3⟩
          case measure => simp [intOf]; omega
      · have e75 : e = 7 ∨ e = 5 := by
          rcases hPu.out with ⟨h1, _⟩ | ⟨_, _, _, _, h⟩ | ⟨_, _, _, _, _, h⟩ | ⟨_, _, _, _, _, h⟩
          · rcases h1 with h1 | h1
            · omega
            · exact absurd HO.out.ln h1
          · exact .inl h
          · exact .inr h
          · exact absurd h he
        have HO2 : Hid (Ord w1 l w2 fr bk fa fn fc ka kn kc na t nc) :=
          Lib.hid { HO.out with mf := HO.out.mf.gr G2.out, mb := HO.out.mb.gr G2.out, mn := HO.out.mn.gr G2.out, gr := HO.out.gr.trans G2.out }
        clear he hPu HO
        rcases e75 with rfl | rfl
        all_goals (
          go_wp2_with fail
          go_roundw
          case rel => exact ⟨j + 1, fr, bk, fa, fn, fc, ka, kn, kc, na, t, nc, by go_num, by omega, rfl, rfl, rfl, HO2⟩
          case measure => simp [intOf]; omega)
    · obtain rfl : j = q := by omega
      have o0 := omem_empty (enc := Value.int .i64) (ok := B64) wr 3 (Nat.le_refl _)
      have g0 := (Gr.refl wr).al (.cells #[] 3)
      have hsum : fn + m + kn = t := by
        have h1 := HO.out.mf.mem.1
        have h2 := HO.out.mb.mem.1
        have h3 := HO.out.mn.1
        have h4 := HM.out.1
        simp only [List.length_append] at h3
        omega
      clear HM1 HR qd q0
      go_wp2_with (at_builtin; refine Mark.stop ?_)
      refine Mark.go ?_
      refine wpList_append_omem2 _ (Value.int .i64) B64 rfl (.tmp 71) (.tmp 72) 22 rfl (fun _ => rfl) wr.heap.size 3 i0 (.int .i64 0) 8 Try.underlying22 HI0.out HZ.out HZ1.out HZ2.out rfl _ 0 0 [] rfl o0 fa fn fc fr rfl (HO.out.mf.mem.gr g0) (by unfold maxLen; omega) (by omega) g0.size ?_
      intro A1 c1 w3 own1 gb1 _
      simp only [Nat.zero_add, List.nil_append] at own1
      have G1 := Lib.hid (g0.gb gb1 (fun k hk => (o0.lt k hk).1))
      simp only [Nat.zero_add]
      clear gb1 o0 g0
      go_wp2_with (at_builtin; refine Mark.stop ?_)
      refine Mark.go ?_
      refine wpList_append_omem2 _ (Value.int .i64) B64 rfl (.tmp 73) (.tmp 74) 22 rfl (fun _ => rfl) wr.heap.size 3 i0 (.int .i64 0) 8 Try.underlying22 HI0.out HZ.out HZ1.out HZ2.out rfl A1 fn c1 fr rfl own1 A m c l rfl (HM.out.gr (HO.out.gr.trans G1.out)) (by unfold maxLen; omega) (by omega) G1.out.size ?_
      intro A2 c2 w4 own2 gb2 _
      have G2 := Lib.hid (G1.out.gb gb2 (fun k hk => (own1.lt k hk).1))
      clear gb2 own1 G1
      go_wp2_with (at_builtin; refine Mark.stop ?_)
      refine Mark.go ?_
      refine wpList_append_omem2 _ (Value.int .i64) B64 rfl (.tmp 75) (.tmp 76) 22 rfl (fun _ => rfl) wr.heap.size 3 i0 (.int .i64 0) 8 Try.underlying22 HI0.out HZ.out HZ1.out HZ2.out rfl A2 (fn + m) c2 (fr ++ l) rfl own2 ka kn kc bk rfl (HO.out.mb.mem.gr G2.out) (by unfold maxLen; omega) (by omega) G2.out.size ?_
      intro A3 c3 w5 own3 gb3 _
      have G3 := Lib.hid (G2.out.gb gb3 (fun k hk => (own2.lt k hk).1))
      rw [hsum]
      clear gb3 own2 own3 G2
      obtain ⟨T, hT⟩ : ∃ T, fr ++ l ++ bk = T := ⟨_, rfl⟩
      have HN := Lib.hid (show IMem w5 na t T by rw [← hT]; exact HO.out.mn.gr G3.out)
      have HT := Lib.hid (show Ln T by rw [← hT]; exact HO.out.ln)
      have HE := Lib.hid hT
      clear hT
      go_wp2_with fail
      go_loopw [7, 12, 79] (fun N O i wq => ∃ (k : Nat) (na' : Option Addr) (s nc' : Nat) (oa : Option Addr) (oc : Nat), i = .int .i64 (k : Int) ∧ k ≤ t ∧ k + s = t ∧ N = .slice na' s nc' ∧ O = .slice oa k oc ∧ s ≤ nc' ∧ Hid (IMem wq na' s (T.drop k)) ∧ Hid (IOwn w5.heap.size wq oa k oc (T.take k)) ∧ Hid (Off na' oa) ∧ Hid (Gr w5 wq)) (fun _ _ i _ => t - (intOf i).toNat)
      case atStart => exact ⟨0, na, t, nc, none, 0, rfl, Nat.zero_le _, by omega, rfl, rfl, tnc, HN, Lib.hid OMem.nil_, Lib.hid (Off.nil _), Lib.hid (Gr.refl _)⟩
      case round =>
        clear HN
        obtain ⟨k, na', s, nc', oa, oc, rfl, hk, hks, rfl, rfl, snc, HN, HQ, HF, HG⟩ := hrel
        by_cases hlt2 : k < t
        · have hTl : T.length = t := by
            have := HN.out.1
            rw [List.length_drop] at this
            have h4 := HQ.out.mem.1
            rw [List.length_take] at h4
            omega
          obtain ⟨x, hx⟩ : ∃ x, T[k]? = some x := ⟨_, List.getElem?_eq_getElem (by omega)⟩
          have hdx : T.drop k = x :: T.drop (k + 1) := by
            rw [List.drop_eq_getElem_cons (by omega), (List.getElem?_eq_some_iff.1 hx).2]
          have hbx : B64 x := HN.out.2.1 x (by rw [hdx]; simp)
          have hLd : Ln (T.drop k) := by
            refine ⟨by rw [List.length_drop]; have := HT.out.1; omega, ?_⟩
            have h := HT.out.2
            rw [← List.take_append_drop k T] at h
            exact (good_app.1 h).2.1
          have kp := Lib.hid (Pop_is (c := nc') HN.out snc (by omega) (r := T.drop (k + 1)) (x := x) (e := 0) (.inr (.inr ⟨hLd, hdx, rfl⟩)))
          have hl1 : (T.drop (k + 1)).length = s - 1 := by rw [List.length_drop]; omega
          rw [hl1] at kp
          obtain ⟨s1, hs1⟩ : ∃ s1, s - 1 = s1 := ⟨_, rfl⟩
          rw [hs1] at kp
          have HX := Lib.hid (take_more hx)
          clear hx hdx hLd hl1
          go_wp2_with fail
          with_reducible refine kp.out.mono ?_
          rintro e w7 ⟨C, d7, rfl, own7, g7⟩
          have O7 := Lib.hid own7
          have G7 := Lib.hid g7
          clear own7 g7 kp
          have gA := (Gr.refl w7).al (.cells #[.int .i64 x] 3)
          go_wp2_with (at_builtin; refine Mark.stop ?_)
          refine Mark.go ?_
          refine wpList_append_omem2 _ (Value.int .i64) B64 rfl (.tmp 90) (.tmp 92) 22 rfl (fun _ => rfl) w5.heap.size 3 i0 (.int .i64 0) 8 Try.underlying22 HI0.out HZ.out HZ1.out HZ2.out rfl oa k oc (T.take k) rfl ((HQ.out.gr G7.out).gr gA) _ 1 1 [x] rfl (emem_one' _ x hbx _ rfl) (by unfold maxLen; omega) (by omega) ((HG.out.trans G7.out).al _).size ?_
          intro A8 c8 w8 own8 gb8 hA8
          have HQ2 := Lib.hid (show IOwn w5.heap.size w8 A8 (k + 1) c8 (T.take (k + 1)) by rw [HX.out]; exact own8)
          have hoff := Off.new HQ.out (C := C) (fun k hk => (O7.out.lt k hk).1)
          have HN2 := Lib.hid (show IMem w8 C s1 (T.drop (k + 1)) from (O7.out.mem.gr gA).gb gb8 hoff)
          have HF2 := Lib.hid (hoff.step (B := (w7.alloc (.cells #[.int .i64 x] 3)).heap.size) (fun k hk => by have := (O7.out.lt k hk).2; simp; omega) hA8)
          have HG2 := Lib.hid (show Gr w5 w8 from ((HG.out.trans G7.out).al _).gb gb8 (fun k hk => (HQ.out.lt k hk).1))
          have hle := O7.out.le
          clear own8 gb8 hA8 hoff HN HQ HF HG O7 G7 gA
          go_wp2_with fail
          go_roundw
          case rel => exact ⟨k + 1, C, s1, d7, A8, c8, by go_num, by omega, by omega, rfl, rfl, hle, HN2, HQ2, HF2, HG2⟩
          case measure => simp [intOf]; omega
        · obtain rfl : k = t := by omega
          obtain rfl : s = 0 := by omega
          have kp := fun w => Lib.hid (Pop_is (c := nc') (l := []) EMem.nil_ snc (by omega) (w := w) (A := na') (r := []) (x := 0) (e := 4) (.inr (.inl ⟨rfl, rfl, rfl, rfl⟩)))
          go_wp2_with fail
          with_reducible refine (kp _).out.mono ?_
          rintro e w7 ⟨C, d7, rfl, own7, g7⟩
          clear own7 kp
          go_wp2_with fail
          with_reducible refine (alive7_ok _).mono ?_
          rintro e w8 ⟨rfl, g8⟩
          have G8 := Lib.hid (HG.out.trans (g7.trans g8))
          have O8 := Lib.hid ((HQ.out.gr g7).gr g8)
          clear HQ HF HG HN g7
          have o0 := omem_empty (enc := Value.int .i64) (ok := B64) w8 3 (Nat.le_refl _)
          have g0 := (Gr.refl w8).al (.cells #[] 3)
          have gW := Lib.hid (G3.out.trans G8.out)
          go_wp2_with (at_builtin; refine Mark.stop ?_)
          refine Mark.go ?_
          refine wpList_append_omemW _ (Value.int .i64) B64 (by rfl) (.tmp 108) (.tmp 109) 22 rfl (fun _ => rfl) w8.heap.size 3 i0 (.int .i64 0) 8 Try.underlying22 HI0.out HZ.out HZ1.out HZ2.out rfl _ 0 0 [] rfl o0 fa fn fc fr rfl (HO.out.mf.mem.gr (gW.out.trans g0)) (by unfold maxLen; omega) (by omega) g0.size ?_
          intro A11 c11 w11 own1 gb1 _
          simp only [Nat.zero_add, List.nil_append] at own1
          have G11 := Lib.hid (g0.gb gb1 (fun k hk => (o0.lt k hk).1))
          simp only [Nat.zero_add]
          clear gb1 o0 g0
          go_wp2_with (at_builtin; refine Mark.stop ?_)
          refine Mark.go ?_
          refine wpList_append_omemW _ (Value.int .i64) B64 (by rfl) (.tmp 110) (.tmp 111) 22 rfl (fun _ => rfl) w8.heap.size 3 i0 (.int .i64 0) 8 Try.underlying22 HI0.out HZ.out HZ1.out HZ2.out rfl A11 fn c11 fr rfl own1 A m c l rfl (HM.out.gr (HO.out.gr.trans (gW.out.trans G11.out))) (by unfold maxLen; omega) (by omega) G11.out.size ?_
          intro A12 c12 w12 own2 gb2 _
          have G12 := Lib.hid (G11.out.gb gb2 (fun k hk => (own1.lt k hk).1))
          clear gb2 own1 G11
          go_wp2_with (at_builtin; refine Mark.stop ?_)
          refine Mark.go ?_
          refine wpList_append_omemW _ (Value.int .i64) B64 (by rfl) (.tmp 112) (.tmp 113) 22 rfl (fun _ => rfl) w8.heap.size 3 i0 (.int .i64 0) 8 Try.underlying22 HI0.out HZ.out HZ1.out HZ2.out rfl A12 (fn + m) c12 (fr ++ l) rfl own2 ka kn kc bk rfl (HO.out.mb.mem.gr (gW.out.trans G12.out)) (by unfold maxLen; omega) (by omega) G12.out.size ?_
          intro A13 c13 w13 own3 gb3 _
          have G13 := Lib.hid (G12.out.gb gb3 (fun k hk => (own2.lt k hk).1))
          rw [hsum, HE.out] at own3
          rw [hsum]
          have M13 := O8.out.mem.gr G13.out
          have hTl : T.length = k := own3.mem.1
          rw [show T.take k = T by rw [← hTl, List.take_length]] at M13
          have ks := Lib.hid (rSame_is (v := true) (c := oc) (d := c13) M13 own3.mem (by omega) (by omega) (by simp))
          clear gb3 own2 own3 G12 M13 hTl
          go_wp2_with fail
          with_reducible refine ks.out.mono ?_
          rintro e w14 ⟨rfl, g14⟩
          go_wp2_with fail
          go_ret
          exact ⟨rfl, HO.out.gr.trans (gW.out.trans (G13.out.trans g14))⟩
theorem min20 (n : Nat) : ∃ m, (20 < n ∧ m = 20) ∨ (n ≤ 20 ∧ m = n) := by
  by_cases h : 20 < n
  · exact ⟨20, .inl ⟨h, rfl⟩⟩
  · exact ⟨n, .inr ⟨by omega, rfl⟩⟩
theorem LineOrder_walk (w : World) (A : Option Addr) (n c : Nat) (l : List Int) (hc : n ≤ c) (hn : n ≤ 9223372036854775807) (hm : IMem w A n l) (B : Option Addr) (p d : Nat) (r : List Int) (hd : p ≤ d) (hp : p ≤ 9223372036854775807) (hr : IMem w B p r) :
    Calls Try.prog 4 #[.slice A n c, .slice B p d] w fun e w' => e = .returned (.bool true) ∧ Gr w w' := by
  obtain ⟨m, hmn⟩ := min70 n
  obtain ⟨q, hpq⟩ := min20 p
  have hm2 := hm.take_ m (by omega)
  by_cases hl : Ln (l.take m)
  · exact order_run hc hn hmn hm2 hl hd hp hpq (hr.take_ q (by omega))
  · exact order_no hc hn hmn hm2 hl
set_option maxRecDepth 100000 in
theorem LineOrder_lifted (os : Os) (started : os.Started) (H : Type) (enc : TypeId × Value → H) :
    ReturnsInHanded {} Try.checked os 4 .any (Rows.lineOrderSpec.pre6 enc Try.prog Try.f4 Rows.lineOrderRow.domain false) (Rows.lineOrderSpec.post enc Try.prog Try.f4 false true false false) := by
  refine returnsInHanded_of_change (C := Try.checked) own started (by kernel_rfl) Try.func4
    (ChangeSpec.witness6 (enc := enc) (C := Try.checked) false ⟨#[], #[.slice none 0 0, .slice none 0 0], []⟩ 8 (by kernel_rfl) (by kernel_rfl) (by kernel_rfl) (by kernel_rfl)) ?_
  intro W base args ds gs before hval0 hW hcnd _
  have hval : ∀ (j : Nat) t v, Try.f4.params[j]? = some t → args[j]? = some v → Value.okWide Try.prog W .any base t v := hval0
  have hW' := hW
  obtain ⟨p, q, hA0, hV, rfl, hfz, hnd⟩ := hW
  have hA : DataW.TrodAll enc Try.prog W 0 (fun _ => true) true Try.f4.params.toList args.toList ds p := hA0
  rw [Try.params4] at hA hval
  have hK := hA
  obtain ⟨v0, vs0, d0, ds0, p0, q0, hargs, rfl, hp, h0, r0⟩ := trodAll_cons hA
  obtain ⟨v1, vs1, d1, ds1, p1, q1, rfl, rfl, rfl, h1, r1⟩ := trodAll_cons r0
  obtain ⟨rfl, rfl, rfl⟩ := trodAll_nil r1
  obtain rfl : args = #[v0, v1] := by cases args; simp_all
  obtain ⟨rfl, rfl⟩ := trodVars_none hV
  obtain ⟨A0, n0, c0, l0, rfl, hc0, hn0, hm0⟩ := open_ints (hval 0 22 v0 rfl rfl) h0
  obtain ⟨A1, n1, c1, l1, rfl, hc1, hn1, hm1⟩ := open_ints (hval 1 22 v1 rfl rfl) h1
  clear hA0 hval0
  refine (LineOrder_walk W A0 n0 c0 l0 hc0 hn0 hm0 A1 n1 c1 l1 hc1 hn1 hm1).mono fun e W' ⟨he, hg⟩ => ?_
  subst he
  exact ⟨_, rfl, post_below (pa := p) (pv := []) hW' (fun _ _ _ => (trodAll_cons_mk (shut_bool Try.underlying4 _) trodAll_mk0))
    (fun sp hs => trodAll_stays laidOut hg sp (by kernel_rfl) hK (fun x hx => hW'.lt x (List.mem_append_left _ hx)) (fun x hx => hs x (List.mem_append_left _ hx))) (fun _ _ => rfl) rfl
    hg (ok_one (by kernel_rfl) rfl (okWide_bool_mk Try.underlying4 _))⟩

theorem LineOrder_over : Rows.lineOrderRow.holds Try.pinned (OpenSpec.ofChange Rows.lineOrderSpec) :=
  OpenClaim.holds_of_wide 4 Try.f4 rfl rfl rfl rfl rfl rfl rfl ⟨rfl, rfl, rfl, rfl, rfl⟩ rfl rfl rfl rfl rfl (by kernel_rfl) Try.func4 (by kernel_rfl)
    (of_decide_eq_true (by kernel_rfl)) (by unfold Func.isWrapper; first | (rw [if_pos (by decide +kernel)]; kernel_rfl) | (rw [if_neg (by decide +kernel)]; exact ⟨rfl, rfl⟩))
    (fun os started H enc _ => LineOrder_lifted os started H enc)

/-- The statement. -/
theorem LineOrder_holds : Rows.LineOrderSaid :=
  LineOrder_over
#print axioms LineOrder_holds
end Go.Proofs.Ytchfdgoogfidlaa
