/-
  Package script: All (slices.Collect over what is read one by one).
-/
import Derived.Test.YtclhdpmlmbicjaaScriptShare
import Derived.Test.YtclhdpmlmbicjaaScriptMem
namespace Go.Proofs.Ytclhdpmlmbicjaa
open Go.ChangeShapes Go.WideShapes Go.ChangeAt Go.RowKit Go.Shelf
set_option linter.unusedVariables false
set_option linter.unusedSimpArgs false
attribute [local go_sem] Oper.semAt_some
namespace P13

theorem blk_notcells {W : World} {base : Nat} {v : Value} {l : List Pk} (h : KOwn W base v l) : ∀ (j : Nat) (o : Obj), v.ownBlock = some j → W.heap[j]? = some o → o.isCells = true := by
  intro j o hj ho
  rcases h.2 with ⟨rfl, _⟩ | ⟨g, cap, cur, rfl, _, hg, _⟩
  · cases hj
  · simp only [Value.ownBlock] at hj
    cases hj
    rw [hg] at ho
    cases ho
    rfl
/-- Between two rounds of AppendSeq: the row so far. -/
structure ApI (w : World) (b2 : Nat) (pre : List Int) (W : World) : Prop where
  gr : Gr w W
  row : ∃ v, Blk W b2 #[v] 29 ∧ KOwn W (b2 + 1) v (pre.map rd)
theorem kown_kept {W W' : World} {base : Nat} {v : Value} {l : List Pk} {row : Option Nat} (h : KOwn W base v l) (hg : W.grownBy W' row) (hr : ∀ r, row = some r → ∃ o : Obj, W.heap[r]? = some o ∧ o.isCells = false) : KOwn W' base v l := by
  refine h.kept hg ?_
  cases hv : v.ownBlock with
  | none => exact .inl rfl
  | some k =>
    refine .inr fun e => ?_
    obtain ⟨o, h1, h2⟩ := hr k e.symm
    rw [blk_notcells h k o hv h1] at h2
    cases h2
theorem ApI.own {w : World} {b2 B : Nat} (hB : w.heap.size ≤ B) : OwnFrom B (fun pre W => ApI w b2 pre W) := fun pre W W' row h hg hr => by
  obtain ⟨v, h1, h2⟩ := h.row
  exact ⟨h.gr.gb hg (fun k e => Nat.le_trans hB (hr k e).1), v, blk_kept h1 hg (fun r e => (hr r e).2), kown_kept h2 hg (fun r e => (hr r e).2)⟩
theorem ApI.gr' {w : World} {b2 : Nat} {pre : List Int} {W W' : World} (h : ApI w b2 pre W) (g : Gr W W') : ApI w b2 pre W' := by
  obtain ⟨v, h1, h2⟩ := h.row
  exact ⟨h.gr.trans g, v, h1.gr g, h2.gr g⟩
theorem rd_all (l : List Int) : ∀ x ∈ l.map rd, Inb x.1 ∧ Inb x.2 := fun x hx => by
  obtain ⟨v, _, rfl⟩ := List.mem_map.1 hx
  exact rd_inb v

set_option maxRecDepth 100000 in
set_option maxHeartbeats 4000000 in
theorem AppendSeq_is {w : World} {A : Option Addr} {n c lb : Nat} {L : List Int} (hm : IMem w A n L) (hn : n ≤ 100000) (hL : Blk w lb #[.slice A n c] 24) :
    Calls Try.prog 22 #[.slice none 0 0, .func (.func 23) #[] #[.pointer (some ⟨lb, 0, none⟩)]] w fun e w' => ∃ v, e = .returned v ∧ KOwn w' w.heap.size v (L.map rd) ∧ Gr w w' := by
  have hlen := hm.1
  have hstops := fun W (g : Gr w W) => picks_stops hm (by omega) (6 - 1) (by omega) lb W g (hL.gr g)
  refine (callsIn_wide (n := 6)).1 ?_
  refine callsIn_of_wp_marks Try.func22 rfl trivial ?_ rfl
  simp only [Try.ntmps22, List.size_toArray, List.length_cons, List.length_nil, Nat.reduceAdd, Nat.reduceSub, Array.replicate_succ, Array.replicate_zero, List.push_toArray, List.append_toArray, List.nil_append, List.cons_append]
  gi_wp2_with fail
  have G3 := (Gr.refl w).al (.cells #[.slice none 0 0] 29)
  have H2 := Blk.new w #[.slice none 0 0] 29
  have hst := hstops _ G3
  have hs3 : (w.alloc (.cells #[.slice none 0 0] 29)).heap.size = w.heap.size + 1 := by simp
  generalize w.alloc (.cells #[.slice none 0 0] 29) = w3 at *
  obtain ⟨b2, hb2⟩ : ∃ b, w.heap.size = b := ⟨_, rfl⟩
  rw [hb2] at H2
  rw [hb2]
  have h56 : w.heap.size ≤ b2 ∧ b2 < w3.heap.size := by omega
  have HG3 := Lib.hid G3
  have HB2 := Lib.hid hb2
  clear hstops hb2 hs3 hm G3 hL
  refine wpIn_rangeFunc_ownH rfl (by omega) (gf := 23) (lb := #[.pointer (some ⟨lb, 0, none⟩)]) rfl trivial (enters_of Try.func23 (by kernel_rfl) rfl)
    hst (fun h k => h.trans k) (fun W l o o' hl h hc hw => belowK_b HG3.out.size W l o o' hl h hc hw) (Gr.refl _) (fun _ => rfl)
    (fun pre W => ApI w b2 pre W) (fun c pre W => False) (ApI.own HG3.out.size) (fun c => fun _ _ _ _ h _ _ => h)
    ⟨HG3.out, _, H2, KOwn.nil _ _⟩
    (fun x a' W => ∃ Bx, b2 < Bx ∧ Blk W Bx #[.int .i64 (rd x).1, .int .i64 (rd x).2] 23 ∧ a' = { tmps := #[.slice none 0 0, .func (.func 23) #[] #[.pointer (some ⟨lb, 0, none⟩)], .pointer (some ⟨b2, 0, none⟩), undef, .slice none 0 0, .pointer (some ⟨Bx, 0, none⟩), .func (.func 23) #[] #[.pointer (some ⟨lb, 0, none⟩)], .agg #[.int .i64 (rd x).1, .int .i64 (rd x).2], undef, undef, undef, undef, undef], defers := [] })
    (fun x a' _ X Y row hs hg hr => by
      obtain ⟨Bx, h1, h2, h3⟩ := hs
      exact ⟨Bx, h1, blk_kept h2 hg (fun r e => (hr r e).2), h3⟩)
    ?assign ?body ?done ?stop
  case assign =>
    rintro l pre x W K hI hK
    have hlt4 : b2 < W.heap.size := by
      obtain ⟨v, h1, _⟩ := hI.row
      exact h1.lt
    have ha := (Gr.refl W).al (.cells #[.int .i64 (rd x).1, .int .i64 (rd x).2] 23)
    have HK := Lib.hid (hK _ _ ((keeps_gr ha).from _) (Below.mono ha hI.gr.size) (hI.gr' ha) ⟨W.heap.size, hlt4, Blk.new W _ _, rfl⟩)
    clear hK
    gi_wp2_with fail
    exact HK.out
  case body =>
    rintro l pre x a' W hl ⟨r, hr⟩ hI ⟨Bx, hBx, bX, rfl⟩ hlt
    obtain ⟨v0, h2, hown⟩ := hI.row
    have hib := rd_inb x
    have hmap : (pre ++ [x]).map rd = pre.map rd ++ [rd x] := by simp
    have hpl : (pre.map rd).length = pre.length := by simp
    have hib2 := rd_all pre
    have HI := Lib.hid hI
    have HM := Lib.hid hmap
    generalize rd x = p at *
    generalize pre.map rd = R at *
    have c0 := (bX.at_ (k := 0) rfl).1
    have c1 := (bX.at_ (k := 1) rfl).1
    have cl := bX.lt
    have d0 := (h2.at_ (k := 0) rfl).1
    have dl := h2.lt
    have g1 := (Gr.refl W).al (.cells #[.int .i64 p.1, .int .i64 p.2] 23)
    have HO := Lib.hid (hown.gr g1)
    have HR := Lib.hid (pick_row (Blk.new W #[.int .i64 p.1, .int .i64 p.2] 23) hib)
    have H2g := Lib.hid (h2.gr g1)
    have hbase : b2 + 1 ≤ (W.alloc (.cells #[.int .i64 p.1, .int .i64 p.2] 23)).heap.size := by simp; omega
    have HL := Lib.hid (show R.length + 1 ≤ 1000000 by omega)
    have FIN : Hid (∀ v' w', KOwn w' (b2 + 1) v' (R ++ [p]) → (W.alloc (.cells #[.int .i64 p.1, .int .i64 p.2] 23)).grownBy w' v0.ownBlock →
        (w'.cell? ⟨b2, 0, none⟩ = some v0 ∧ w'.frozen? ⟨b2, 0, none⟩ = false) ∧ b2 < w'.heap.size ∧ KeepsFrom w3.heap.size W (w'.setCell ⟨b2, 0, none⟩ v') ∧ Below w.heap.size W (w'.setCell ⟨b2, 0, none⟩ v') ∧ ApI w b2 (pre ++ [x]) (w'.setCell ⟨b2, 0, none⟩ v')) := Lib.hid fun v' w' hv' hgrow => by
      have hlate : ∀ k, v0.ownBlock = some k → b2 + 1 ≤ k := fun k e => HO.out.late e
      have hnc := blk_notcells HO.out
      have f2 := H2g.out.gb hgrow (fun e => by have := hlate _ e; omega)
      have k1 : KeepsOthers _ w' := KeepsOthers.of_grownBy hgrow hnc
      refine ⟨⟨(f2.at_ (k := 0) rfl).1, (f2.at_ (k := 0) rfl).2⟩, f2.lt, (((keeps_gr g1).trans k1).trans (KeepsOthers.setCell _ _ _)).from _, ?_, ?_⟩
      · exact ((Below.mono g1 HI.out.gr.size).grown hgrow (Nat.le_trans HI.out.gr.size g1.size) (fun k e => by have := hlate k e; omega)).setCell (p := ⟨b2, 0, none⟩) (by show w.heap.size ≤ b2; omega) _
      · refine ⟨((HI.out.gr.trans g1).gb hgrow (fun k e => by have := hlate k e; omega)).st (p := ⟨b2, 0, none⟩) (by show w.heap.size ≤ b2; omega) _, v', f2.set 0 _, ?_⟩
        rw [HM.out]
        refine hv'.kept (grownBy_setCell' w' b2 v') (.inr fun e => ?_)
        have := KOwn.late hv' e
        omega
    clear hI hmap h2 hown hib hpl hib2 hr hl hlt bX g1
    gi_wp2_with (gi_at_builtin; refine Mark.stop ?_)
    refine Mark.go ?_
    refine wpListIn_append_picks (news := [p]) rfl (.tmp 8) (.tmp 10) rfl rfl rfl HO.out HR.out HL.out hbase ?_
    intro v' w' hv' hgrow
    obtain ⟨⟨f1, f2⟩, f3, hF⟩ := FIN.out _ _ hv' hgrow
    obtain ⟨g, cap, rfl, _, _⟩ := World.ownsRow.form hv' (by simp)
    generalize (R ++ [p]).length = N at *
    have HFF := Lib.hid hF
    clear hF hv' hgrow
    gi_wp2_with fail
    exact HFF.out
  case done =>
    rintro D ys W hD rfl hI hK
    obtain ⟨v, h2, hown⟩ := hI.row
    have c2 := (h2.at_ (k := 0) rfl).1
    have l2 := h2.lt
    have HK := Lib.hid hK
    have HI := Lib.hid hI
    have HO := Lib.hid hown
    clear hI hK hown
    gi_wp2_with fail
    refine ⟨by simp, .inl ⟨_, _, rfl, run_takeDeferred HK.out, ?_⟩⟩
    have EG := HI.out.gr.gb (grownBy_putObj' W D (.deferred none)) (fun k e => by cases e; exact Nat.le_trans HG3.out.size hD)
    have EO := kown_kept HO.out (grownBy_putObj' W D (.deferred none)) (fun r e => by cases e; exact ⟨_, HK.out, rfl⟩)
    generalize W.putObj D (.deferred none) = WF at *
    refine ⟨v, by simp [results, Try.results22, go_sem], v, rfl, KOwn.low EO (by rw [HB2.out]; omega), EG⟩
  case stop =>
    rintro D cc pre W hD hpre h hK
    exact h.elim
end P13
end Go.Proofs.Ytclhdpmlmbicjaa
