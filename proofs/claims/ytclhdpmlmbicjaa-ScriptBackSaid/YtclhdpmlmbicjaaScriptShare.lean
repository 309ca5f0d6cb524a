/-
  Package script: Share.
-/
import Derived.Test.YtclhdpmlmbicjaaScriptIter
namespace Go.Proofs.Ytclhdpmlmbicjaa
open Go.ChangeShapes Go.WideShapes Go.ChangeAt Go.RowKit Go.Shelf
set_option linter.unusedVariables false
set_option linter.unusedSimpArgs false
attribute [local go_sem] Oper.semAt_some
namespace P13

theorem blk_kept {W W' : World} {b : Nat} {cs : Array Value} {t : TypeId} {row : Option Nat} (h : Blk W b cs t) (hg : W.grownBy W' row) (hr : ∀ r, row = some r → ∃ o : Obj, W.heap[r]? = some o ∧ o.isCells = false) : Blk W' b cs t :=
  h.gb hg fun e => by
    obtain ⟨o, h1, h2⟩ := hr b e
    rw [show W.heap[b]? = _ from h] at h1
    cases h1
    cases h2
theorem keeps_gr {W W' : World} (g : Gr W W') : KeepsOthers W W' := ⟨g.size, fun k o hk _ => (g.block k (Array.getElem?_eq_some_iff.1 hk).1).trans hk⟩
/-- Whether two picks are the same. -/
def pkEq (p q : Pk) : Bool := decide (p = q)
theorem run_pick_eql (p q : Pk) (w : World) : (binOp .eql 23 (pk p) (pk q)).run Try.prog w = .ok (.bool (pkEq p q)) w := by
  obtain ⟨a, b⟩ := p
  obtain ⟨a', b'⟩ := q
  by_cases h1 : a = a'
  · by_cases h2 : b = b'
    · have e : pkEq (a, b) (a', b') = true := by simp [pkEq, h1, h2]
      subst h1 h2
      rw [e]
      go_simp
    · have e : pkEq (a, b) (a', b') = false := by simp [pkEq, h2]
      have h5 : (b == b') = false := beq_eq_false_iff_ne.2 h2
      subst h1
      rw [e]
      go_simp
  · have e : pkEq (a, b) (a', b') = false := by simp [pkEq, h1]
    have h5 : (a == a') = false := beq_eq_false_iff_ne.2 h1
    rw [e]
    go_simp
/-- Between two rounds of Share. -/
structure ShI (w : World) (who : Int) (b5 b6 : Nat) (pre : List Int) (W : World) : Prop where
  gr : Gr w W
  r5 : Blk W b5 #[.int .i64 ((cnt who pre : Nat) : Int)] 3
  r6 : Blk W b6 #[.int .i64 0, .int .i64 who] 23
theorem ShI.own {w : World} {who : Int} {b5 b6 B : Nat} (hB : w.heap.size ≤ B) : OwnFrom B (fun pre W => ShI w who b5 b6 pre W) := fun pre W W' row h hg hr =>
  ⟨h.gr.gb hg (fun k e => Nat.le_trans hB (hr k e).1), blk_kept h.r5 hg (fun r e => (hr r e).2), blk_kept h.r6 hg (fun r e => (hr r e).2)⟩
theorem ShI.gr' {w : World} {who : Int} {b5 b6 : Nat} {pre : List Int} {W W' : World} (h : ShI w who b5 b6 pre W) (g : Gr W W') : ShI w who b5 b6 pre W' := ⟨h.gr.trans g, h.r5.gr g, h.r6.gr g⟩

set_option maxRecDepth 100000 in
set_option maxHeartbeats 4000000 in
theorem Share_is {w : World} {A : Option Addr} {n c : Nat} {L : List Int} (hm : IMem w A n L) (hn : n ≤ 9223372036854775807) (who : Int) :
    Calls Try.prog 13 #[.slice A n c, .int .i64 who] w fun e w' => e = .returned (.int .i64 ((cnt who L : Nat) : Int)) ∧ Gr w w' := by
  have hlen := hm.1
  have B5 := (Blk.new w #[.int .i64 0] 3).al (.cells #[.int .i64 0, .int .i64 who] 23)
  have B6 := Blk.new (w.alloc (.cells #[.int .i64 0] 3)) #[.int .i64 0, .int .i64 who] 23
  have g0 := ((Gr.refl w).al (.cells #[.int .i64 0] 3)).al (.cells #[.int .i64 0, .int .i64 who] 23)
  rw [World.size_alloc] at B6
  refine (callsIn_wide (n := 6)).1 ?_
  refine callsIn_of_wp_marks Try.func13 rfl trivial ?_ rfl
  simp only [Try.ntmps13, List.size_toArray, List.length_cons, List.length_nil, Nat.reduceAdd, Nat.reduceSub, Array.replicate_succ, Array.replicate_zero, List.push_toArray, List.append_toArray, List.nil_append, List.cons_append]
  gi_wp2_with fail
  refine ⟨trivial, ?_⟩
  with_reducible refine (callsIn_wide.2 (picks_is A n c _)).mono ?_
  rintro e w3 ⟨rfl, hw3⟩
  have gW := (Gr.refl ((w.alloc (.cells #[.int .i64 0] 3)).alloc (.cells #[.int .i64 0, .int .i64 who] 23))).al (.cells #[.slice A n c] 24)
  have BL := Blk.new ((w.alloc (.cells #[.int .i64 0] 3)).alloc (.cells #[.int .i64 0, .int .i64 who] 23)) #[.slice A n c] 24
  rw [World.size_alloc, World.size_alloc] at BL
  simp only [World.size_alloc]
  rw [← hw3] at gW BL
  have G3 := g0.trans gW
  have H5 := B5.gr gW
  have H6 := B6.gr gW
  have hs3 : w3.heap.size = w.heap.size + 3 := by rw [hw3]; simp
  clear hw3 gW B5 B6 g0
  gi_wp2_with fail
  have hstops := picks_stops hm hn (6 - 1) (by omega) (w.heap.size + 1 + 1) w3 G3 BL
  obtain ⟨b6, hb6⟩ : ∃ b, w.heap.size + 1 = b := ⟨_, rfl⟩
  obtain ⟨b5, hb5⟩ : ∃ b, w.heap.size = b := ⟨_, rfl⟩
  rw [hb6] at H6 hstops
  rw [hb5] at H5
  rw [hb6, hb5]
  have h56 : w.heap.size ≤ b5 ∧ b5 < b6 ∧ b6 + 1 < w3.heap.size := by omega
  have HG3 := Lib.hid G3
  clear hb6 hb5 hs3 BL hm G3
  refine wpIn_rangeFunc_ownH rfl (by omega) (gf := 23) (lb := #[.pointer (some ⟨b6 + 1, 0, none⟩)]) rfl trivial (enters_of Try.func23 (by kernel_rfl) rfl)
    hstops (fun h k => h.trans k) (fun W l o o' hl h hc hw => belowK_b HG3.out.size W l o o' hl h hc hw) (Gr.refl _) (fun _ => rfl)
    (fun pre W => ShI w who b5 b6 pre W) (fun c pre W => False) (ShI.own HG3.out.size) (fun c => fun _ _ _ _ h _ _ => h)
    ⟨HG3.out, H5, H6⟩
    (fun x a' W => ∃ Bx, b6 < Bx ∧ Blk W Bx #[.int .i64 (rd x).1, .int .i64 (rd x).2] 23 ∧ a' = { tmps := #[.slice A n c, .int .i64 who, undef, undef, .int .i64 0, .pointer (some ⟨b5, 0, none⟩), .pointer (some ⟨b6, 0, none⟩), .pointer (some ⟨Bx, 0, none⟩), .int .i64 who, .agg #[.int .i64 0, .int .i64 who], .slice A n c, .func (.func 23) #[] #[.pointer (some ⟨b6 + 1, 0, none⟩)], .agg #[.int .i64 (rd x).1, .int .i64 (rd x).2], undef, undef, undef, undef, undef, undef], defers := [] })
    (fun x a' _ X Y row hs hg hr => by
      obtain ⟨Bx, h1, h2, h3⟩ := hs
      exact ⟨Bx, h1, blk_kept h2 hg (fun r e => (hr r e).2), h3⟩)
    ?assign ?body ?done ?stop
  case assign =>
    rintro l pre x W K hI hK
    have hlt6 : b6 < W.heap.size := hI.r6.lt
    have ha := (Gr.refl W).al (.cells #[.int .i64 (rd x).1, .int .i64 (rd x).2] 23)
    have HK := Lib.hid (hK _ _ ((keeps_gr ha).from _) (Below.mono ha hI.gr.size) (hI.gr' ha) ⟨W.heap.size, hlt6, Blk.new W _ _, rfl⟩)
    clear hK
    gi_wp2_with fail
    exact HK.out
  case body =>
    rintro l pre x a' W hl ⟨r, hr⟩ hI ⟨Bx, hBx, bX, rfl⟩ hlt
    have he := fun w => run_pick_eql (rd x) (0, who) w
    obtain ⟨v, hv⟩ : ∃ v, pkEq (rd x) (0, who) = v := ⟨_, rfl⟩
    rw [hv] at he
    have hcn := cnt_snoc who pre x
    have hcl := cnt_le who pre
    rw [show his who x = v from hv] at hcn
    have c0 := (bX.at_ (k := 0) rfl).1
    have c1 := (bX.at_ (k := 1) rfl).1
    have d0 := (hI.r6.at_ (k := 0) rfl).1
    have d1 := (hI.r6.at_ (k := 1) rfl).1
    have d2 := hI.r6.lt
    have d3 := bX.lt
    obtain ⟨C, hC⟩ : ∃ C, cnt who pre = C := ⟨_, rfl⟩
    have r5 := hI.r5
    rw [hC] at r5 hcl hcn
    obtain ⟨e0, e1⟩ := r5.at_ (k := 0) rfl
    have e2 := r5.lt
    have hw5 : IntKind.i64.wrap ((C : Int) + 1) = ((C + 1 : Nat) : Int) := by rw [wrap_id (by omega) (by omega)]; omega
    have HI := Lib.hid hI
    have HC := Lib.hid hcn
    have H5 := Lib.hid r5
    clear hI hcn r5 bX hr hl hv hC
    cases v with
    | true =>
      gi_wp2_with fail
      refine ⟨(KeepsOthers.setCell W ⟨b5, 0, none⟩ _).from _, (Below.refl _ _).setCell (p := ⟨b5, 0, none⟩) (by show w.heap.size ≤ b5; omega) _, ?_⟩
      have hcn := HC.out
      simp only [if_true] at hcn
      refine ⟨HI.out.gr.st (p := ⟨b5, 0, none⟩) (by show w.heap.size ≤ b5; omega) _, ?_, HI.out.r6.st (p := ⟨b5, 0, none⟩) (by show b5 ≠ b6; omega) _⟩
      rw [hcn]
      exact H5.out.set 0 _
    | false =>
      gi_wp2_with fail
      refine ⟨KeepsFrom.refl _ _, Below.refl _ _, HI.out.gr, ?_, HI.out.r6⟩
      rw [HC.out]
      exact H5.out
  case done =>
    rintro D ys W hD rfl hI hK
    have c5 := (hI.r5.at_ (k := 0) rfl).1
    have l5 := hI.r5.lt
    have HK := Lib.hid hK
    have HI := Lib.hid hI
    clear hI hK
    gi_wp2_with fail
    refine ⟨by simp, .inl ⟨_, _, rfl, run_takeDeferred HK.out, ?_⟩⟩
    have EG := HI.out.gr.gb (grownBy_putObj' W D (.deferred none)) (fun k e => by cases e; exact Nat.le_trans HG3.out.size hD)
    generalize W.putObj D (.deferred none) = WF at *
    exact ⟨.int .i64 ((cnt who ys : Nat) : Int), by simp [results, Try.results13, go_sem], rfl, EG⟩
  case stop =>
    rintro D cc pre W hD hpre h hK
    exact h.elim
end P13
end Go.Proofs.Ytclhdpmlmbicjaa
