/-
  Package script: Time.
-/
import Derived.Test.YtclhdpmlmbicjaaScriptShare
namespace Go.Proofs.Ytclhdpmlmbicjaa
open Go.ChangeShapes Go.WideShapes Go.ChangeAt Go.RowKit Go.Shelf
set_option linter.unusedVariables false
set_option linter.unusedSimpArgs false
attribute [local go_sem] Oper.semAt_some
namespace P13

theorem tot_le {pre L : List Int} (h : pre <+: L) : tot pre ≤ tot L := by
  obtain ⟨r, rfl⟩ := h
  rw [tot_append]
  have := tot_nonneg r
  omega
/-- Between two rounds of Time. -/
structure TmI (w : World) (b2 b3 b4 : Nat) (pre : List Int) (W : World) : Prop where
  gr : Gr w W
  r2 : Blk W b2 #[.int .i64 0] 3
  r3 : Blk W b3 #[.int .i64 0] 26
  r4 : Blk W b4 #[.int .i64 (tot pre)] 3
  le : tot pre ≤ 4611686018427387904
theorem TmI.own {w : World} {b2 b3 b4 B : Nat} (hB : w.heap.size ≤ B) : OwnFrom B (fun pre W => TmI w b2 b3 b4 pre W) := fun pre W W' row h hg hr =>
  ⟨h.gr.gb hg (fun k e => Nat.le_trans hB (hr k e).1), blk_kept h.r2 hg (fun r e => (hr r e).2), blk_kept h.r3 hg (fun r e => (hr r e).2), blk_kept h.r4 hg (fun r e => (hr r e).2), h.le⟩
theorem TmI.gr' {w : World} {b2 b3 b4 : Nat} {pre : List Int} {W W' : World} (h : TmI w b2 b3 b4 pre W) (g : Gr W W') : TmI w b2 b3 b4 pre W' := ⟨h.gr.trans g, h.r2.gr g, h.r3.gr g, h.r4.gr g, h.le⟩
/-- Too much. -/
structure TmX (w : World) (b2 b3 : Nat) (pre : List Int) (W : World) : Prop where
  gr : Gr w W
  r2 : Blk W b2 #[.int .i64 0] 3
  r3 : Blk W b3 #[.int .i64 10] 26
  gt : 4611686018427387904 < tot pre
theorem TmX.own {w : World} {b2 b3 B : Nat} (c : Code) (hB : w.heap.size ≤ B) : OwnFrom B (fun pre W => c = .ret ∧ TmX w b2 b3 pre W) := fun pre W W' row h hg hr =>
  ⟨h.1, h.2.gr.gb hg (fun k e => Nat.le_trans hB (hr k e).1), blk_kept h.2.r2 hg (fun r e => (hr r e).2), blk_kept h.2.r3 hg (fun r e => (hr r e).2), h.2.gt⟩

set_option maxRecDepth 100000 in
set_option maxHeartbeats 4000000 in
theorem Time_run {w : World} {A : Option Addr} {n c : Nat} {L : List Int} (hm : IMem w A n L) (hn : n ≤ 9223372036854775807) :
    Calls Try.prog 8 #[.slice A n c] w fun e w' => (∃ r s, e = .returned (.tuple #[.int .i64 r, .int .i64 s]) ∧ TimeR L r s) ∧ Gr w w' := by
  have hlen := hm.1
  obtain ⟨W4, hW4⟩ : ∃ W, ((w.alloc (.cells #[.int .i64 0] 3)).alloc (.cells #[.int .i64 0] 26)).alloc (.cells #[.int .i64 0] 3) = W := ⟨_, rfl⟩
  have B2 : Blk W4 w.heap.size #[.int .i64 0] 3 := by rw [← hW4]; exact ((Blk.new w #[.int .i64 0] 3).al _).al _
  have B3 : Blk W4 (w.heap.size + 1) #[.int .i64 0] 26 := by
    rw [← hW4]
    have := (Blk.new (w.alloc (.cells #[.int .i64 0] 3)) #[.int .i64 0] 26).al (.cells #[.int .i64 0] 3)
    rwa [World.size_alloc] at this
  have B4 : Blk W4 (w.heap.size + 1 + 1) #[.int .i64 0] 3 := by
    rw [← hW4]
    have := Blk.new ((w.alloc (.cells #[.int .i64 0] 3)).alloc (.cells #[.int .i64 0] 26)) #[.int .i64 0] 3
    rwa [World.size_alloc, World.size_alloc] at this
  have g0 : Gr w W4 := by rw [← hW4]; exact (((Gr.refl w).al _).al _).al _
  have hs4 : W4.heap.size = w.heap.size + 1 + 1 + 1 := by rw [← hW4]; simp
  have HW4 := Lib.hid hW4
  clear hW4
  refine (callsIn_wide (n := 6)).1 ?_
  refine callsIn_of_wp_marks Try.func8 rfl trivial ?_ rfl
  simp only [Try.ntmps8, List.size_toArray, List.length_cons, List.length_nil, Nat.reduceAdd, Nat.reduceSub, Array.replicate_succ, Array.replicate_zero, List.push_toArray, List.append_toArray, List.nil_append, List.cons_append]
  gi_wp2_with fail
  refine ⟨trivial, ?_⟩
  with_reducible refine (callsIn_wide.2 (picks_is A n c _)).mono ?_
  rintro e w3 ⟨rfl, hw3⟩
  rw [HW4.out] at hw3 ⊢
  have gW : Gr W4 w3 := by rw [hw3]; exact (Gr.refl W4).al _
  have BL : Blk w3 W4.heap.size #[.slice A n c] 24 := by rw [hw3]; exact Blk.new W4 _ _
  have hs3 : w3.heap.size = w.heap.size + 4 := by rw [hw3, World.size_alloc, hs4]
  rw [hs4] at BL ⊢
  have G3 := g0.trans gW
  have H2 := B2.gr gW
  have H3 := B3.gr gW
  have H4 := B4.gr gW
  clear hw3 gW B2 B3 B4 g0 HW4 hs4
  gi_wp2_with fail
  have hstops := picks_stops hm hn (6 - 1) (by omega) (w.heap.size + 1 + 1 + 1) w3 G3 BL
  obtain ⟨b4, hb4⟩ : ∃ b, w.heap.size + 1 + 1 = b := ⟨_, rfl⟩
  obtain ⟨b3, hb3⟩ : ∃ b, w.heap.size + 1 = b := ⟨_, rfl⟩
  obtain ⟨b2, hb2⟩ : ∃ b, w.heap.size = b := ⟨_, rfl⟩
  rw [hb4] at H4 hstops
  rw [hb3] at H3
  rw [hb2] at H2
  rw [hb4, hb3, hb2]
  have h56 : w.heap.size ≤ b2 ∧ b2 < b3 ∧ b3 < b4 ∧ b4 + 1 < w3.heap.size := by omega
  have HG3 := Lib.hid G3
  clear hb2 hb3 hb4 hs3 BL hm G3
  refine wpIn_rangeFunc_ownH rfl (by omega) (gf := 23) (lb := #[.pointer (some ⟨b4 + 1, 0, none⟩)]) rfl trivial (enters_of Try.func23 (by kernel_rfl) rfl)
    hstops (fun h k => h.trans k) (fun W l o o' hl h hc hw => belowK_b HG3.out.size W l o o' hl h hc hw) (Gr.refl _) (fun _ => rfl)
    (fun pre W => TmI w b2 b3 b4 pre W) (fun c pre W => c = .ret ∧ TmX w b2 b3 pre W) (TmI.own HG3.out.size) (fun c => TmX.own c HG3.out.size)
    ⟨HG3.out, H2, H3, H4, by decide⟩
    (fun x a' W => ∃ Bx, b4 < Bx ∧ Blk W Bx #[.int .i64 (rd x).1, .int .i64 (rd x).2] 23 ∧ a' = { tmps := #[.slice A n c, undef, .pointer (some ⟨b2, 0, none⟩), .pointer (some ⟨b3, 0, none⟩), .pointer (some ⟨b4, 0, none⟩), .pointer (some ⟨Bx, 0, none⟩), undef, undef, .slice A n c, .func (.func 23) #[] #[.pointer (some ⟨b4 + 1, 0, none⟩)], .agg #[.int .i64 (rd x).1, .int .i64 (rd x).2], undef, undef, undef, undef, undef, undef, undef, undef, undef, undef, undef, undef, undef, undef, undef], defers := [] })
    (fun x a' _ X Y row hs hg hr => by
      obtain ⟨Bx, h1, h2, h3⟩ := hs
      exact ⟨Bx, h1, blk_kept h2 hg (fun r e => (hr r e).2), h3⟩)
    ?assign ?body ?done ?stop
  case assign =>
    rintro l pre x W K hI hK
    have hlt4 : b4 < W.heap.size := hI.r4.lt
    have ha := (Gr.refl W).al (.cells #[.int .i64 (rd x).1, .int .i64 (rd x).2] 23)
    have HK := Lib.hid (hK _ _ ((keeps_gr ha).from _) (Below.mono ha hI.gr.size) (hI.gr' ha) ⟨W.heap.size, hlt4, Blk.new W _ _, rfl⟩)
    clear hK
    gi_wp2_with fail
    exact HK.out
  case body =>
    rintro l pre x a' W hl ⟨r, hr⟩ hI ⟨Bx, hBx, bX, rfl⟩ hlt
    have hts := tot_snoc pre x
    have hle := hI.le
    have hnn := tot_nonneg pre
    have hok := rd_ok x
    obtain ⟨T, hT⟩ : ∃ T, tot pre = T := ⟨_, rfl⟩
    have c0 := (bX.at_ (k := 0) rfl).1
    have c1 := (bX.at_ (k := 1) rfl).1
    have cl := bX.lt
    have r4 := hI.r4
    rw [hT] at r4 hts hle hnn
    obtain ⟨e0, e1⟩ := r4.at_ (k := 0) rfl
    have el := r4.lt
    have HI := Lib.hid hI
    have HTS := Lib.hid hts
    have H4 := Lib.hid r4
    clear hI hts r4 hr hl hT
    by_cases h1 : (rd x).1 = 1
    · have hx2 : 0 < (rd x).2 ∧ (rd x).2 ≤ 4611686018427387904 := by
        rcases hok with ⟨h, _⟩ | ⟨_, h, h'⟩
        · rw [h1] at h; exact absurd h (by decide)
        · exact ⟨h, h'⟩
      have hts := HTS.out
      rw [tk_tick h1] at hts
      generalize rd x = p at *
      obtain ⟨k, d⟩ := p
      obtain rfl : k = 1 := h1
      have hd : 0 < d ∧ d ≤ 4611686018427387904 := hx2
      have hts : tot (pre ++ [x]) = T + d := hts
      have HD := Lib.hid hts
      clear hts hx2 hok HTS bX
      by_cases hsum : T + d ≤ 4611686018427387904
      · have CT := fun W => Lib.hid (P4.Tick_is (a := T) (b := d) (r := T + d) (s := 0) (.inl ⟨⟨hnn, hle⟩, ⟨by omega, hd.2⟩, hsum, rfl, rfl⟩) W)
        gi_wp2_with fail
        refine ⟨trivial, ?_⟩
        with_reducible refine (CallsIn.inRound l (callsIn_wide.2 (CT _).out)).mono ?_
        rintro ee W1 ⟨rfl, hb1⟩
        have HG1 := Lib.hid hb1
        have H41 := Lib.hid (H4.out.gr hb1)
        obtain ⟨e0', e1'⟩ := H41.out.at_ (k := 0) rfl
        have el' := H41.out.lt
        clear hb1 CT
        gi_wp2_with fail
        have HI1 := HI.out.gr' HG1.out
        refine ⟨((keeps_gr HG1.out).trans (KeepsOthers.setCell W1 ⟨b4, 0, none⟩ _)).from _, (Below.mono HG1.out HI.out.gr.size).setCell (p := ⟨b4, 0, none⟩) (by show w.heap.size ≤ b4; omega) _,
          ⟨HI1.gr.st (p := ⟨b4, 0, none⟩) (by show w.heap.size ≤ b4; omega) _, HI1.r2.st (p := ⟨b4, 0, none⟩) (by show b4 ≠ b2; omega) _, HI1.r3.st (p := ⟨b4, 0, none⟩) (by show b4 ≠ b3; omega) _, ?_, by rw [HD.out]; exact hsum⟩⟩
        rw [HD.out]
        exact H41.out.set 0 _
      · have CT := fun W => Lib.hid (P4.Tick_is (a := T) (b := d) (r := 0) (s := 10) (.inr (.inl ⟨⟨hnn, hle⟩, ⟨by omega, hd.2⟩, by omega, rfl, rfl⟩)) W)
        gi_wp2_with fail
        refine ⟨trivial, ?_⟩
        with_reducible refine (CallsIn.inRound l (callsIn_wide.2 (CT _).out)).mono ?_
        rintro ee W1 ⟨rfl, hb1⟩
        have HG1 := Lib.hid hb1
        have HI1 := Lib.hid (HI.out.gr' hb1)
        obtain ⟨p0, p1⟩ := HI1.out.r2.at_ (k := 0) rfl
        obtain ⟨q0, q1⟩ := HI1.out.r3.at_ (k := 0) rfl
        have pl := HI1.out.r2.lt
        have ql := HI1.out.r3.lt
        clear hb1 CT
        gi_wp2_with fail
        refine ⟨((keeps_gr HG1.out).trans ((KeepsOthers.setCell W1 ⟨b2, 0, none⟩ _).trans (KeepsOthers.setCell _ ⟨b3, 0, none⟩ _))).from _, rfl,
          ⟨(HI1.out.gr.st (p := ⟨b2, 0, none⟩) (by show w.heap.size ≤ b2; omega) _).st (p := ⟨b3, 0, none⟩) (by show w.heap.size ≤ b3; omega) _,
            (HI1.out.r2.set 0 (.int .i64 0)).st (p := ⟨b3, 0, none⟩) (by show b3 ≠ b2; omega) _, (HI1.out.r3.st (p := ⟨b2, 0, none⟩) (by show b2 ≠ b3; omega) (.int .i64 0)).set 0 (.int .i64 10), by rw [HD.out]; omega⟩⟩
    · have hne : ((rd x).1 == 1) = false := beq_eq_false_iff_ne.2 h1
      have hts := HTS.out
      rw [tk_step h1, Int.add_zero] at hts
      have HD := Lib.hid hts
      generalize rd x = p at *
      obtain ⟨k, d⟩ := p
      clear hts hok HTS bX
      gi_wp2_with fail
      refine ⟨KeepsFrom.refl _ _, Below.refl _ _, HI.out.gr, HI.out.r2, HI.out.r3, ?_, by rw [HD.out]; exact hle⟩
      rw [HD.out]
      exact H4.out
  case done =>
    rintro D ys W hD rfl hI hK
    obtain ⟨c4, _⟩ := hI.r4.at_ (k := 0) rfl
    obtain ⟨c2, z2⟩ := hI.r2.at_ (k := 0) rfl
    obtain ⟨c3, z3⟩ := hI.r3.at_ (k := 0) rfl
    have l4 := hI.r4.lt
    have l2 := hI.r2.lt
    have l3 := hI.r3.lt
    have HK := Lib.hid hK
    have HI := Lib.hid hI
    clear hI hK
    gi_wp2_with fail
    have hK1 : ((W.setCell ⟨b2, 0, none⟩ (.int .i64 (tot ys))).setCell ⟨b3, 0, none⟩ (.int .i64 0)).heap[D]? = some (.deferred (some [])) := ((KeepsOthers.setCell W ⟨b2, 0, none⟩ (.int .i64 (tot ys))).trans (KeepsOthers.setCell _ ⟨b3, 0, none⟩ (.int .i64 0))).same D _ HK.out rfl
    have D2 : Blk ((W.setCell ⟨b2, 0, none⟩ (.int .i64 (tot ys))).setCell ⟨b3, 0, none⟩ (.int .i64 0)) b2 #[.int .i64 (tot ys)] 3 := (HI.out.r2.set 0 (.int .i64 (tot ys))).st (p := ⟨b3, 0, none⟩) (by show b3 ≠ b2; omega) _
    have D3 : Blk ((W.setCell ⟨b2, 0, none⟩ (.int .i64 (tot ys))).setCell ⟨b3, 0, none⟩ (.int .i64 0)) b3 #[.int .i64 0] 26 := (HI.out.r3.st (p := ⟨b2, 0, none⟩) (by show b2 ≠ b3; omega) _).set 0 (.int .i64 0)
    have DG := (HI.out.gr.st (p := ⟨b2, 0, none⟩) (by show w.heap.size ≤ b2; omega) (.int .i64 (tot ys))).st (p := ⟨b3, 0, none⟩) (by show w.heap.size ≤ b3; omega) (.int .i64 0)
    refine ⟨by simp, .inl ⟨_, _, rfl, run_takeDeferred hK1, ?_⟩⟩
    clear c4 c2 z2 c3 z3
    generalize (W.setCell ⟨b2, 0, none⟩ (.int .i64 (tot ys))).setCell ⟨b3, 0, none⟩ (.int .i64 0) = WE at *
    have E2 := blk_kept D2 (grownBy_putObj' WE D (.deferred none)) (fun r e => by cases e; exact ⟨_, hK1, rfl⟩)
    have E3 := blk_kept D3 (grownBy_putObj' WE D (.deferred none)) (fun r e => by cases e; exact ⟨_, hK1, rfl⟩)
    have EG := DG.gb (grownBy_putObj' WE D (.deferred none)) (fun k e => by cases e; exact Nat.le_trans HG3.out.size hD)
    clear D2 D3 DG hK1
    generalize WE.putObj D (.deferred none) = WF at *
    have q2 : WF.cell? ⟨b2, 0, none⟩ = some (.int .i64 (tot ys)) := (E2.at_ (k := 0) rfl).1
    have q3 : WF.cell? ⟨b3, 0, none⟩ = some (.int .i64 0) := (E3.at_ (k := 0) rfl).1
    exact ⟨.tuple #[.int .i64 (tot ys), .int .i64 0], by simp [results, Try.results8, go_sem, q2, q3], ⟨_, _, rfl, .inl ⟨HI.out.le, rfl, rfl⟩⟩, EG⟩
  case stop =>
    rintro D cc pre W hD hpre ⟨rfl, hX⟩ hK
    have hgt := Int.lt_of_lt_of_le hX.gt (tot_le hpre)
    have HX := Lib.hid hX
    have HK := Lib.hid hK
    have HGT := Lib.hid hgt
    clear hX hK hpre hgt
    gi_wp2_with fail
    refine ⟨by simp, .inl ⟨_, _, rfl, run_takeDeferred HK.out, ?_⟩⟩
    have E2 := blk_kept HX.out.r2 (grownBy_putObj' W D (.deferred none)) (fun r e => by cases e; exact ⟨_, HK.out, rfl⟩)
    have E3 := blk_kept HX.out.r3 (grownBy_putObj' W D (.deferred none)) (fun r e => by cases e; exact ⟨_, HK.out, rfl⟩)
    have EG := HX.out.gr.gb (grownBy_putObj' W D (.deferred none)) (fun k e => by cases e; exact Nat.le_trans HG3.out.size hD)
    generalize W.putObj D (.deferred none) = WF at *
    have q2 : WF.cell? ⟨b2, 0, none⟩ = some (.int .i64 0) := (E2.at_ (k := 0) rfl).1
    have q3 : WF.cell? ⟨b3, 0, none⟩ = some (.int .i64 10) := (E3.at_ (k := 0) rfl).1
    exact ⟨.tuple #[.int .i64 0, .int .i64 10], by simp [results, Try.results8, go_sem, q2, q3], ⟨_, _, rfl, .inr ⟨HGT.out, rfl, rfl⟩⟩, EG⟩
theorem TimeR.one {l : List Int} {r e r' e' : Int} (h : TimeR l r e) (h' : TimeR l r' e') : r' = r ∧ e' = e := by
  unfold TimeR at h h'
  omega
theorem Time_is {w : World} {A : Option Addr} {n c : Nat} {L : List Int} (hm : IMem w A n L) (hn : n ≤ 9223372036854775807) {r s : Int} (h : TimeR L r s) :
    Calls Try.prog 8 #[.slice A n c] w fun e w' => e = .returned (.tuple #[.int .i64 r, .int .i64 s]) ∧ Gr w w' := by
  refine (Time_run hm hn).mono ?_
  rintro e w' ⟨⟨r', s', rfl, h'⟩, hg⟩
  obtain ⟨rfl, rfl⟩ := h.one h'
  exact ⟨rfl, hg⟩
end P13
end Go.Proofs.Ytclhdpmlmbicjaa
