/-
  Package prog: what a text is read as.
-/
import Derived.Test.YtocojdiapaeajaaDoorProgLines
import Derived.Test.YtocojdiapaeajaaDoorProgParse
namespace Go.Proofs.YtocojdiapaeajaaDoor
open Go.ChangeShapes Go.WideShapes Go.ChangeAt Go.RowKit Go.Shelf
set_option linter.unusedVariables false
set_option linter.unusedSimpArgs false
set_option maxRecDepth 100000
attribute [local go_sem] Oper.semAt_some
namespace P12

theorem wpListIn_append_progs {F : Fence} {f : Nat} {w : World} {base lo : Nat} {A : Option Addr} {n c : Nat} {R : List PV} {B : Option Addr} {m d : Nat} {news : List PV} {ops : Array Oper} {rest : List Oper} {o : Oper} {a : Act} {Q : Exit → Act → World → Prop} (hgd : o.guard = none) (s x : Operand)
    (ho : o.op = .call { callee := .builtin .append, args := #[s, x], argTypes := #[22, 22] }) (hs : a.eval s = .slice A n c) (hx : a.eval x = .slice B m d)
    (h : POwn w base lo A n c R) (hr : PMem w B m news) (hoff : ∀ x ∈ news, 0 < x.n → ∀ k, x.A.map (·.block) = some k → lo ≤ k ∧ k < w.heap.size ∧ A.map (·.block) ≠ some k)
    (hl : n + m ≤ 1000000) (hbase : base ≤ w.heap.size)
    (hK : ∀ A' c' w', Grown w base lo A n m R news A' c' w' → wpListIn F f Tryd.prog ops Q rest (a.put o.dst (.slice A' (n + m) c')) w') : wpListIn F f Tryd.prog ops Q (o :: rest) a w := by
  refine wpListIn_plain hgd fun K hK' => ?_
  obtain ⟨A', c', w', h1, h2⟩ := run_append_progs h hr hoff hl hbase o.type d
  unfold Oper.wpIn
  refine ⟨?_, ?_⟩
  · simp [Oper.about, ho, resolve, Target.leads, Sem.run_pure]
  · rw [Oper.semAt_plain F _ _ (by rw [ho]; intro c hc'; cases hc')]
    simp [execOp, ho, resolve, invoke, builtin, hs, hx, h1, Result.andThen]
    exact hK' _ _ (hK A' c' w' h2)
theorem keeps_gr {W W' : World} (g : Gr W W') : KeepsOthers W W' := ⟨g.size, fun k o hk _ => (g.block k (Array.getElem?_eq_some_iff.1 hk).1).trans hk⟩
theorem blk_kept {W W' : World} {b : Nat} {cs : Array Value} {t : TypeId} {row : Option Nat} (h : Blk W b cs t) (hg : W.grownBy W' row) (hr : ∀ r, row = some r → ∃ o : Obj, W.heap[r]? = some o ∧ o.isCells = false) : Blk W' b cs t :=
  h.gb hg fun e => by
    obtain ⟨o, h1, h2⟩ := hr b e
    rw [show W.heap[b]? = _ from h] at h1
    cases h1
    cases h2
/-- A row of programs, where a block that is no cells was written. -/
theorem POwn.kept {w w' : World} {base lo : Nat} {A : Option Addr} {n c : Nat} {R : List PV} {row : Option Nat} (h : POwn w base lo A n c R) (hg : w.grownBy w' row) (hr : ∀ r, row = some r → ∃ o : Obj, w.heap[r]? = some o ∧ o.isCells = false) : POwn w' base lo A n c R := by
  have far : ∀ (k : Nat) (v : Value) (off : Nat), w.cell? ⟨k, off, none⟩ = some v → w'.heap[k]? = w.heap[k]? := fun k v off hc => by
    refine hg.block k (World.block_lt_of_cell? w _ hc) fun e => ?_
    obtain ⟨o, h1, h2⟩ := hr k e.symm
    obtain ⟨o', ho', hc'⟩ := cells_of_cell hc
    rw [show w.heap[k]? = some o' from ho'] at h1
    cases h1
    rw [h2] at hc'
    cases hc'
  obtain ⟨⟨⟨r1, r2, r3⟩, r4, r5, r6⟩, h2, h3⟩ := h
  refine ⟨⟨⟨r1, r2, fun hn => ?_⟩, r4, r5, ?_⟩, fun x hx => ?_, fun x hx h0 k hk => ?_⟩
  · obtain ⟨b, off, e, hb, hc⟩ := r3 hn
    exact ⟨b, off, e, Nat.lt_of_lt_of_le hb hg.size, fun j x hj => (World.cell?_of_block (a := ⟨b, off + j, none⟩) (far b _ _ (hc j x hj))).trans (hc j x hj)⟩
  · rcases r6 with r6 | ⟨b, off, e, hb, hlt, hc⟩
    · exact .inl r6
    · refine .inr ⟨b, off, e, hb, Nat.lt_of_lt_of_le hlt hg.size, fun j hj => ?_⟩
      obtain ⟨v, hv⟩ := Option.isSome_iff_exists.1 (hc j hj).1
      have e2 := far b _ _ hv
      rw [World.cell?_of_block (a := ⟨b, off + j, none⟩) e2, World.frozen?_of_block (a := ⟨b, off + j, none⟩) e2]
      exact hc j hj
  · obtain ⟨m1, m2⟩ := h2 x hx
    refine ⟨⟨m1.1, m1.2.1, fun hn => ?_⟩, m2⟩
    obtain ⟨b, off, e, hb, hc⟩ := m1.2.2 hn
    exact ⟨b, off, e, Nat.lt_of_lt_of_le hb hg.size, fun j u hj => (World.cell?_of_block (a := ⟨b, off + j, none⟩) (far b _ _ (hc j u hj))).trans (hc j u hj)⟩
  · obtain ⟨e1, e2, e3⟩ := h3 x hx h0 k hk
    exact ⟨e1, Nat.lt_of_lt_of_le e2 hg.size, e3⟩
/-- What a call answers of programs: where they lie, in new blocks. -/
def GotL (B : Nat) (w : World) (P : List (List Ac)) (A : Option Addr) (n c : Nat) : Prop := ∃ R, pl R = P ∧ POwn w B B A n c R
theorem GotL.len {B : Nat} {w : World} {P : List (List Ac)} {A : Option Addr} {n c : Nat} (h : GotL B w P A n c) : P.length = n := by
  obtain ⟨R, rfl, h⟩ := h
  unfold pl
  rw [List.length_map, h.len]
theorem GotL.nil {B : Nat} {w : World} : GotL B w [] none 0 0 := ⟨[], rfl, POwn.nil⟩

/-- The line without its end. -/
abbrev cutE (x : Bs) : Bs := Lib.trimSuffix x [10]
theorem drop_mid {L a b : List Bs} {x : Bs} (h : L = a ++ x :: b) : L.drop a.length = x :: L.drop (a.length + 1) := by
  subst h
  have e : (a ++ x :: b).drop (a.length + 1) = b := by
    rw [show a ++ x :: b = (a ++ [x]) ++ b by simp, List.drop_left' (by simp)]
  rw [e, List.drop_left]
/-- Between two rounds: what lies in the variables. -/
structure ParI (w : World) (b2 b3 b4 b5 : Nat) (T : Int × Int × List (List Ac)) (L : List Bs) (pre : List Bs) (W : World) : Prop where
  gr : Gr w W
  r2 : Blk W b2 #[.slice none 0 0] 22
  r3 : Blk W b3 #[.int .i64 0] 3
  r4 : Blk W b4 #[.int .i64 0] 23
  row : ∃ A c R, Blk W b5 #[.slice A pre.length c] 22 ∧ POwn W (b5 + 2) (b5 + 2) A pre.length c R ∧ combL (pl R) (lnsP pre.length (L.drop pre.length)) = T ∧ pre.length ≤ 8 ∧ (A = none ∨ 0 < c)
/-- A line is wrong: what lies in the results. -/
structure ParX (w : World) (b2 b3 b4 : Nat) (T : Int × Int × List (List Ac)) (W : World) : Prop where
  gr : Gr w W
  r2 : Blk W b2 #[.slice none 0 0] 22
  r3 : Blk W b3 #[.int .i64 T.2.1] 3
  r4 : Blk W b4 #[.int .i64 T.1] 23
  no : T.2.2 = []
section
variable {w : World} {b2 b3 b4 b5 B : Nat} {T : Int × Int × List (List Ac)} {L : List Bs}
theorem ParI.own (hB : w.heap.size ≤ B) : OwnFrom B (fun (pre : List Bs) W => ParI w b2 b3 b4 b5 T L pre W) := fun pre W W' row h hg hr => by
  obtain ⟨A, c, R, h1, h2, h3, h4⟩ := h.row
  have hc := fun r e => (hr r e).2
  exact ⟨h.gr.gb hg (fun k e => Nat.le_trans hB (hr k e).1), blk_kept h.r2 hg hc, blk_kept h.r3 hg hc, blk_kept h.r4 hg hc, A, c, R, blk_kept h1 hg hc, h2.kept hg hc, h3, h4⟩
theorem ParI.stands (h2 : b2 < b5) (h3 : b3 < b5) (h4 : b4 < b5) (hw : w.heap.size ≤ b5) : Stands (b5 + 1) (fun (pre : List Bs) W => ParI w b2 b3 b4 b5 T L pre W) := by
  refine ⟨fun pre W u h => ?_, fun pre W h => ?_⟩
  · obtain ⟨A, c, R, e1, e2, e3, e4⟩ := h.row
    exact ⟨h.gr.st (p := ⟨b5 + 1, 0, none⟩) (by show w.heap.size ≤ b5 + 1; omega) u, h.r2.st (p := ⟨b5 + 1, 0, none⟩) (by show b5 + 1 ≠ b2; omega) u, h.r3.st (p := ⟨b5 + 1, 0, none⟩) (by show b5 + 1 ≠ b3; omega) u,
      h.r4.st (p := ⟨b5 + 1, 0, none⟩) (by show b5 + 1 ≠ b4; omega) u, A, c, R, e1.st (p := ⟨b5 + 1, 0, none⟩) (by show b5 + 1 ≠ b5; omega) u, e2.st (by omega) (by omega) u, e3, e4⟩
  · obtain ⟨A, c, R, e1, e2, e3, e4⟩ := h.row
    exact ⟨h.gr.dr, h.r2, h.r3, h.r4, A, c, R, e1, e2.gr (Gr.refl W).dr, e3, e4⟩
theorem ParX.own (c : Code) (hB : w.heap.size ≤ B) : OwnFrom B (fun (pre : List Bs) W => c = .ret ∧ ParX w b2 b3 b4 T W) := fun pre W W' row h hg hr => by
  have hc := fun r e => (hr r e).2
  exact ⟨h.1, h.2.gr.gb hg (fun k e => Nat.le_trans hB (hr k e).1), blk_kept h.2.r2 hg hc, blk_kept h.2.r3 hg hc, blk_kept h.2.r4 hg hc, h.2.no⟩
theorem ParX.stands (c : Code) (h2 : b2 < b5) (h3 : b3 < b5) (h4 : b4 < b5) (hw : w.heap.size ≤ b5) : Stands (b5 + 1) (fun (pre : List Bs) W => c = .ret ∧ ParX w b2 b3 b4 T W) :=
  ⟨fun pre W u h => ⟨h.1, h.2.gr.st (p := ⟨b5 + 1, 0, none⟩) (by show w.heap.size ≤ b5 + 1; omega) u, h.2.r2.st (p := ⟨b5 + 1, 0, none⟩) (by show b5 + 1 ≠ b2; omega) u, h.2.r3.st (p := ⟨b5 + 1, 0, none⟩) (by show b5 + 1 ≠ b3; omega) u,
    h.2.r4.st (p := ⟨b5 + 1, 0, none⟩) (by show b5 + 1 ≠ b4; omega) u, h.2.no⟩, fun pre W h => ⟨h.1, h.2.gr.dr, h.2.r2, h.2.r3, h.2.r4, h.2.no⟩⟩
end
set_option maxHeartbeats 2000000 in
theorem Parse_long {t : Bs} (h : 2000 < t.length) (w : World) :
    Calls Tryd.prog 8 #[.string (bs t)] w fun e w' => e = .returned (.tuple #[.slice none 0 0, .int .i64 0, .int .i64 2]) ∧ Gr w w' := by
  have hz : 2000 < (bs t).size := by rw [bs_size]; exact h
  have hz2 := bs_size t
  go_enter Tryd.func8, Tryd.ntmps8
  go_wp2_with fail
  exact bodyPost_ret (v := .tuple #[.slice none 0 0, .int .i64 0, .int .i64 2]) (by simp [results, Tryd.results8, go_sem]) rfl ⟨rfl, (((Gr.refl w).al _).al _).al _⟩

set_option maxHeartbeats 8000000 in
theorem Parse_short {t : Bs} (ht : t.length ≤ 2000) {w : World} (hg : Glob w) {T : Int × Int × List (List Ac)} (hT : lnsP 0 (lns [] t) = T) :
    Calls Tryd.prog 8 #[.string (bs t)] w fun e w' => (∃ A n c, e = .returned (.tuple #[.slice A n c, .int .i64 T.2.1, .int .i64 T.1]) ∧ GotL w.heap.size w' T.2.2 A n c) ∧ Gr w w' := by
  have hz : ¬ (2000 < (bs t).size) := by rw [bs_size]; omega
  have hz2 := bs_size t
  have hz3 : ¬ (2000 : Int) < ((t.length : Nat) : Int) := by omega
  obtain ⟨W5, hW5⟩ : ∃ W, (((w.alloc (.cells #[.slice none 0 0] 22)).alloc (.cells #[.int .i64 0] 3)).alloc (.cells #[.int .i64 0] 23)).alloc (.cells #[.slice none 0 0] 22) = W := ⟨_, rfl⟩
  have B2 : Blk W5 w.heap.size #[.slice none 0 0] 22 := by rw [← hW5]; exact (((Blk.new w #[.slice none 0 0] 22).al _).al _).al _
  have B3 : Blk W5 (w.heap.size + 1) #[.int .i64 0] 3 := by rw [← hW5]; exact ((blk_new2 w (.cells #[.slice none 0 0] 22) #[.int .i64 0] 3).al _).al _
  have B4 : Blk W5 (w.heap.size + 1 + 1) #[.int .i64 0] 23 := by
    rw [← hW5]
    have := blk_new2 (w.alloc (.cells #[.slice none 0 0] 22)) (.cells #[.int .i64 0] 3) #[.int .i64 0] 23
    rw [World.size_alloc] at this
    exact this.al _
  have B5 : Blk W5 (w.heap.size + 1 + 1 + 1) #[.slice none 0 0] 22 := by
    rw [← hW5]
    have := blk_new2 ((w.alloc (.cells #[.slice none 0 0] 22)).alloc (.cells #[.int .i64 0] 3)) (.cells #[.int .i64 0] 23) #[.slice none 0 0] 22
    rw [World.size_alloc, World.size_alloc] at this
    exact this
  have G5 : Gr w W5 := by rw [← hW5]; exact ((((Gr.refl w).al _).al _).al _).al _
  have hs5 : W5.heap.size = w.heap.size + 1 + 1 + 1 + 1 := by rw [← hW5]; simp
  have CL := Lib.hid (Lines_is (bs t) W5)
  have HB2 := Lib.hid B2
  have HB3 := Lib.hid B3
  have HB4 := Lib.hid B4
  have HB5 := Lib.hid B5
  have HG5 := Lib.hid G5
  have HTT := Lib.hid hT
  have HGL := Lib.hid hg
  clear B2 B3 B4 B5 G5 hT hg
  refine (callsIn_wide (n := 6)).1 ?_
  refine callsIn_of_wp_marks Tryd.func8 rfl trivial ?_ rfl
  simp only [Tryd.ntmps8, List.size_toArray, List.length_cons, List.length_nil, Nat.reduceAdd, Nat.reduceSub, Array.replicate_succ, Array.replicate_zero, List.push_toArray, List.append_toArray, List.nil_append, List.cons_append]
  gi_wp2_with fail
  refine ⟨trivial, ?_⟩
  with_reducible refine (callsIn_wide.2 CL.out).mono ?_
  rintro e w6 ⟨rfl, hw6⟩
  have HBS := Lib.hid (show Blk w6 W5.heap.size #[.string (bs t)] 9 from by rw [hw6]; exact Blk.new W5 _ _)
  have g6 : Gr W5 w6 := by rw [hw6]; exact (Gr.refl W5).al _
  have h6s : w6.heap.size = w.heap.size + 1 + 1 + 1 + 1 + 1 := by rw [hw6, World.size_alloc, hs5]
  rw [hs5] at HBS ⊢
  have HI2 := Lib.hid (HB2.out.gr g6)
  have HI3 := Lib.hid (HB3.out.gr g6)
  have HI4 := Lib.hid (HB4.out.gr g6)
  have HI5 := Lib.hid (HB5.out.gr g6)
  have HG6 := Lib.hid (HG5.out.trans g6)
  clear hw6 g6 HB2 HB3 HB4 HB5 HG5 CL hW5 hs5
  gi_wp2_with fail
  obtain ⟨b5, hb5⟩ : ∃ b, w.heap.size + 1 + 1 + 1 = b := ⟨_, rfl⟩
  obtain ⟨b4, hb4⟩ : ∃ b, w.heap.size + 1 + 1 = b := ⟨_, rfl⟩
  obtain ⟨b3, hb3⟩ : ∃ b, w.heap.size + 1 = b := ⟨_, rfl⟩
  obtain ⟨b2, hb2⟩ : ∃ b, w.heap.size = b := ⟨_, rfl⟩
  rw [hb5] at HI5 HBS ⊢
  rw [hb4] at HI4 ⊢
  rw [hb3] at HI3 ⊢
  have hord : w.heap.size = b2 ∧ b2 < b3 ∧ b3 < b4 ∧ b4 < b5 ∧ b5 + 2 = w6.heap.size := by omega
  rw [hb2] at HI2
  have hstops := lines1_stops t (by omega) (6 - 1) (by omega) w.heap.size (b5 + 1) w6 HBS.out
  have hlens := Lib.hid (raws_len t)
  have hmaps := Lib.hid (raws_lns t)
  refine wpIn_range_self (by omega) (gf := 34) (lb := #[.pointer (some ⟨b5 + 1, 0, none⟩)]) rfl trivial (enters_of Tryd.func34 (by kernel_rfl) rfl)
    hstops (by omega) (KpS.refl _ _ _) (fun h k => h.t k) (fun W o h => KpS.gr ((Gr.refl W).al o) (Nat.le_trans HG6.out.size h.below.size)) (fun W l o o' hl h hc => KpS.put o o' (Nat.le_trans HG6.out.size hl) h hc)
    (fun pre W => ParI w b2 b3 b4 b5 T (lns [] t) pre W) (fun c pre W => c = .ret ∧ ParX w b2 b3 b4 T W) (ParI.own HG6.out.size) (fun c => ParX.own c HG6.out.size)
    (ParI.stands (by omega) (by omega) (by omega) (by omega)) (fun c => ParX.stands c (by omega) (by omega) (by omega) (by omega))
    ⟨HG6.out, HI2.out, HI3.out, HI4.out, none, 0, [], HI5.out, POwn.nil, by rw [show pl [] = [] from rfl]; exact (combL_nil _ _).trans HTT.out, by simp, .inl rfl⟩
    (fun x => { tmps := #[.string (bs t), undef, .pointer (some ⟨b2, 0, none⟩), .pointer (some ⟨b3, 0, none⟩), .pointer (some ⟨b4, 0, none⟩), .pointer (some ⟨b5, 0, none⟩), .string (bs x), undef, undef, .string (bs t), .int .i64 ((t.length : Nat) : Int), .bool false, .string (bs t), .func (.func 34) #[] #[.pointer (some ⟨b5 + 1, 0, none⟩)], .string (bs x), undef, undef, undef, undef, undef, undef, undef, undef, undef, undef, undef, undef, undef, undef, undef, undef, undef, undef], defers := [] })
    ?assign ?body ?done ?stop
  case assign =>
    rintro l x W K hK
    gi_wp2_with fail
    exact hK
  case body =>
    rintro l pre x W hl ⟨r, hr⟩ hI ⟨rest, hpre⟩
    have hxl : x.length ≤ t.length := hlens.out x (by rw [← hpre]; simp)
    have hdrop : (lns [] t).drop pre.length = cutE x :: (lns [] t).drop (pre.length + 1) := by
      have h := drop_mid (L := lns [] t) (a := pre.map fun x => Lib.trimSuffix x [10]) (x := cutE x) (b := rest.map fun x => Lib.trimSuffix x [10]) (by rw [← hmaps.out, ← hpre]; simp)
      rwa [List.length_map] at h
    have hyl : (Lib.trimSuffix x [10]).length ≤ 100000 := by have := Lib.trimSuffix_le x [10]; omega
    obtain ⟨A, c, R, h5, hown, hcomb, h8, hA0⟩ := hI.row
    have hWs : b5 + 2 < W.heap.size := by have := (Array.getElem?_eq_some_iff.1 hr).1; omega
    obtain ⟨N, hN⟩ : ∃ N, pre.length = N := ⟨_, rfl⟩
    rw [hN] at hdrop h5 hown hcomb h8
    obtain ⟨e1, p, hep⟩ : ∃ e1 p, lineP N (cutE x) = (e1, p) := ⟨_, _, rfl⟩
    have hgW := HGL.out.gr hI.gr
    have CT := Lib.hid (Trim_is (s := x) (d := [10]) (by omega) W.drew)
    rw [show bs [10] = ({ data := #[10] } : ByteArray) from rfl] at CT
    have CP := Lib.hid (parseLine_is (i := N) (s := Lib.trimSuffix x [10]) hep (hgW.gr (Gr.refl W).dr) hyl (by omega))
    have hcase : (e1 ≠ 0 ∧ T = (e1, (N : Int), [])) ∨ (e1 = 0 ∧ N < 8 ∧ combL (pl R ++ [p]) (lnsP (N + 1) ((lns [] t).drop (N + 1))) = T) := by
      rw [hdrop] at hcomb
      unfold lineP at hep
      by_cases h : 8 ≤ N
      · rw [if_pos h] at hep
        cases hep
        rw [lnsP_full h] at hcomb
        exact .inl ⟨by decide, hcomb.symm⟩
      · rw [if_neg h] at hep
        by_cases he : (linP (cutE x)).1 ≠ 0
        · rw [lnsP_wrong (by omega) he] at hcomb
          rw [hep] at hcomb he
          exact .inl ⟨he, hcomb.symm⟩
        · rw [lnsP_step (by omega) (by simpa using he), hep] at hcomb
          rw [hep] at he
          exact .inr ⟨by simpa using he, by omega, hcomb⟩
    have c5 := (h5.at_ (k := 0) rfl).1
    have cl5 := h5.lt
    have H5 := Lib.hid h5
    have HO := Lib.hid hown
    have HI := Lib.hid hI
    have HNN := Lib.hid hN
    have HGW := Lib.hid hgW
    clear hep hown hI h5 hdrop hcomb hpre hxl hyl hgW hN hr
    generalize hY : Lib.trimSuffix x [10] = Y at CT CP
    clear hY
    gi_wp2_with fail
    refine wpIn_mono (Q := fun e a' w' => ∃ (y : PV) (W9 : World), e = .normal ∧ a' = { tmps := #[.string (bs t), undef, .pointer (some ⟨b2, 0, none⟩), .pointer (some ⟨b3, 0, none⟩), .pointer (some ⟨b4, 0, none⟩), .pointer (some ⟨b5, 0, none⟩), .string (bs x), .slice y.A y.n y.c, .int .i64 e1, .string (bs t), .int .i64 ((t.length : Nat) : Int), .bool false, .string (bs t), .func (.func 34) #[] #[.pointer (some ⟨b5 + 1, 0, none⟩)], .string (bs x), .tuple #[.slice y.A y.n y.c, .int .i64 e1], .slice A N c, .int .i64 (N : Int), .string (bs x), .string (bs Y), .tuple #[.slice y.A y.n y.c, .int .i64 e1], .slice y.A y.n y.c, .int .i64 e1, undef, undef, undef, undef, undef, undef, undef, undef, undef, undef], defers := [] } ∧ w' = W9 ∧ GotP W.drew.heap.size W9 p y ∧ Gr W.drew W9) ?_ ?_
    · refine wpIn_region_any (by kernel_rfl) ?_
      change wpAnyIn _ _ _ _ _ _ _ _ _ (World.drew _)
      refine wpAnyIn_ready (rs := [0, 2]) (by kernel_rfl) (by simp) ?_
      refine AllReadyIn.cons rfl (fun K hK => ?_) ?_
      · go_simp
        refine hK _ _ ?_
        clear hK K
        try simp only [Act.put, List.setIfInBounds_toArray, List.set_cons_zero, List.set_cons_succ]
        refine wpAnyIn_ready (rs := [1, 2]) (by kernel_rfl) (by simp) ?_
        refine AllReadyIn.cons rfl (fun K hK => ?_) ?_
        · go_simp
          refine hK _ _ ?_
          clear hK K
          try simp only [Act.put, List.setIfInBounds_toArray, List.set_cons_zero, List.set_cons_succ]
          refine wpAnyIn_ready (rs := [2]) (by kernel_rfl) (by simp) ?_
          refine AllReadyIn.cons rfl (fun K hK => ?_) ?_
          · go_simp
            refine hK _ _ ?_
            clear hK K
            try simp only [Act.put, List.setIfInBounds_toArray, List.set_cons_zero, List.set_cons_succ]
            refine wpAnyIn_ready (rs := [3]) (by kernel_rfl) (by simp) ?_
            refine AllReadyIn.cons rfl (fun K hK => ?_) ?_
            · go_simp
              refine ⟨trivial, ?_⟩
              with_reducible refine (CallsIn.inRound l (callsIn_wide.2 CT.out)).mono ?_
              rintro ee W8 ⟨rfl, rfl⟩
              refine hK _ _ ?_
              clear hK K
              try simp only [Act.put, List.setIfInBounds_toArray, List.set_cons_zero, List.set_cons_succ]
              refine wpAnyIn_ready (rs := [4]) (by kernel_rfl) (by simp) ?_
              refine AllReadyIn.cons rfl (fun K hK => ?_) ?_
              · go_simp
                refine ⟨trivial, ?_⟩
                with_reducible refine (CallsIn.inRound l (callsIn_wide.2 CP.out)).mono ?_
                rintro ee W9 ⟨⟨y, rfl, hy9⟩, hb9⟩
                have HY9 := Lib.hid hy9
                have HB9 := Lib.hid hb9
                clear hy9 hb9
                refine hK _ _ ?_
                clear hK K
                try simp only [Act.put, List.setIfInBounds_toArray, List.set_cons_zero, List.set_cons_succ]
                refine wpAnyIn_ready (rs := [5]) (by kernel_rfl) (by simp) ?_
                refine AllReadyIn.cons rfl (fun K hK => ?_) ?_
                · go_simp
                  refine hK _ _ ?_
                  clear hK K
                  try simp only [Act.put, List.setIfInBounds_toArray, List.set_cons_zero, List.set_cons_succ]
                  refine wpAnyIn_ready (rs := [6, 7]) (by kernel_rfl) (by simp) ?_
                  refine AllReadyIn.cons rfl (fun K hK => ?_) ?_
                  · go_simp
                    refine hK _ _ ?_
                    clear hK K
                    try simp only [Act.put, List.setIfInBounds_toArray, List.set_cons_zero, List.set_cons_succ]
                    refine wpAnyIn_ready (rs := [7, 8]) (by kernel_rfl) (by simp) ?_
                    refine AllReadyIn.cons rfl (fun K hK => ?_) ?_
                    · go_simp
                      refine hK _ _ ?_
                      clear hK K
                      try simp only [Act.put, List.setIfInBounds_toArray, List.set_cons_zero, List.set_cons_succ]
                      refine wpAnyIn_ready (rs := [8]) (by kernel_rfl) (by simp) ?_
                      refine AllReadyIn.cons rfl (fun K hK => ?_) ?_
                      · go_simp
                        refine hK _ _ ?_
                        clear hK K
                        try simp only [Act.put, List.setIfInBounds_toArray, List.set_cons_zero, List.set_cons_succ]
                        refine wpAnyIn_ready (rs := [9]) (by kernel_rfl) (by simp) ?_
                        refine AllReadyIn.cons rfl (fun K hK => ?_) ?_
                        · go_simp
                          refine hK _ _ ?_
                          clear hK K
                          try simp only [Act.put, List.setIfInBounds_toArray, List.set_cons_zero, List.set_cons_succ]
                          refine wpAnyIn_done (by kernel_rfl) ?_ _
                          exact ⟨y, W9, rfl, rfl, rfl, HY9.out, HB9.out⟩
                        exact AllReadyIn.nil
                      exact AllReadyIn.nil
                    refine AllReadyIn.cons rfl (fun K hK => ?_) ?_
                    · go_simp
                      refine hK _ _ ?_
                      clear hK K
                      try simp only [Act.put, List.setIfInBounds_toArray, List.set_cons_zero, List.set_cons_succ]
                      refine wpAnyIn_ready (rs := [7]) (by kernel_rfl) (by simp) ?_
                      refine AllReadyIn.cons rfl (fun K hK => ?_) ?_
                      · go_simp
                        refine hK _ _ ?_
                        clear hK K
                        try simp only [Act.put, List.setIfInBounds_toArray, List.set_cons_zero, List.set_cons_succ]
                        refine wpAnyIn_ready (rs := [9]) (by kernel_rfl) (by simp) ?_
                        refine AllReadyIn.cons rfl (fun K hK => ?_) ?_
                        · go_simp
                          refine hK _ _ ?_
                          clear hK K
                          try simp only [Act.put, List.setIfInBounds_toArray, List.set_cons_zero, List.set_cons_succ]
                          refine wpAnyIn_done (by kernel_rfl) ?_ _
                          exact ⟨y, W9, rfl, rfl, rfl, HY9.out, HB9.out⟩
                        exact AllReadyIn.nil
                      exact AllReadyIn.nil
                    exact AllReadyIn.nil
                  refine AllReadyIn.cons rfl (fun K hK => ?_) ?_
                  · go_simp
                    refine hK _ _ ?_
                    clear hK K
                    try simp only [Act.put, List.setIfInBounds_toArray, List.set_cons_zero, List.set_cons_succ]
                    refine wpAnyIn_ready (rs := [6]) (by kernel_rfl) (by simp) ?_
                    refine AllReadyIn.cons rfl (fun K hK => ?_) ?_
                    · go_simp
                      refine hK _ _ ?_
                      clear hK K
                      try simp only [Act.put, List.setIfInBounds_toArray, List.set_cons_zero, List.set_cons_succ]
                      refine wpAnyIn_ready (rs := [8]) (by kernel_rfl) (by simp) ?_
                      refine AllReadyIn.cons rfl (fun K hK => ?_) ?_
                      · go_simp
                        refine hK _ _ ?_
                        clear hK K
                        try simp only [Act.put, List.setIfInBounds_toArray, List.set_cons_zero, List.set_cons_succ]
                        refine wpAnyIn_ready (rs := [9]) (by kernel_rfl) (by simp) ?_
                        refine AllReadyIn.cons rfl (fun K hK => ?_) ?_
                        · go_simp
                          refine hK _ _ ?_
                          clear hK K
                          try simp only [Act.put, List.setIfInBounds_toArray, List.set_cons_zero, List.set_cons_succ]
                          refine wpAnyIn_done (by kernel_rfl) ?_ _
                          exact ⟨y, W9, rfl, rfl, rfl, HY9.out, HB9.out⟩
                        exact AllReadyIn.nil
                      exact AllReadyIn.nil
                    exact AllReadyIn.nil
                  exact AllReadyIn.nil
                exact AllReadyIn.nil
              exact AllReadyIn.nil
            exact AllReadyIn.nil
          exact AllReadyIn.nil
        refine AllReadyIn.cons rfl (fun K hK => ?_) ?_
        · go_simp
          refine hK _ _ ?_
          clear hK K
          try simp only [Act.put, List.setIfInBounds_toArray, List.set_cons_zero, List.set_cons_succ]
          refine wpAnyIn_ready (rs := [1, 3]) (by kernel_rfl) (by simp) ?_
          refine AllReadyIn.cons rfl (fun K hK => ?_) ?_
          · go_simp
            refine hK _ _ ?_
            clear hK K
            try simp only [Act.put, List.setIfInBounds_toArray, List.set_cons_zero, List.set_cons_succ]
            refine wpAnyIn_ready (rs := [3]) (by kernel_rfl) (by simp) ?_
            refine AllReadyIn.cons rfl (fun K hK => ?_) ?_
            · go_simp
              refine ⟨trivial, ?_⟩
              with_reducible refine (CallsIn.inRound l (callsIn_wide.2 CT.out)).mono ?_
              rintro ee W8 ⟨rfl, rfl⟩
              refine hK _ _ ?_
              clear hK K
              try simp only [Act.put, List.setIfInBounds_toArray, List.set_cons_zero, List.set_cons_succ]
              refine wpAnyIn_ready (rs := [4]) (by kernel_rfl) (by simp) ?_
              refine AllReadyIn.cons rfl (fun K hK => ?_) ?_
              · go_simp
                refine ⟨trivial, ?_⟩
                with_reducible refine (CallsIn.inRound l (callsIn_wide.2 CP.out)).mono ?_
                rintro ee W9 ⟨⟨y, rfl, hy9⟩, hb9⟩
                have HY9 := Lib.hid hy9
                have HB9 := Lib.hid hb9
                clear hy9 hb9
                refine hK _ _ ?_
                clear hK K
                try simp only [Act.put, List.setIfInBounds_toArray, List.set_cons_zero, List.set_cons_succ]
                refine wpAnyIn_ready (rs := [5]) (by kernel_rfl) (by simp) ?_
                refine AllReadyIn.cons rfl (fun K hK => ?_) ?_
                · go_simp
                  refine hK _ _ ?_
                  clear hK K
                  try simp only [Act.put, List.setIfInBounds_toArray, List.set_cons_zero, List.set_cons_succ]
                  refine wpAnyIn_ready (rs := [6, 7]) (by kernel_rfl) (by simp) ?_
                  refine AllReadyIn.cons rfl (fun K hK => ?_) ?_
                  · go_simp
                    refine hK _ _ ?_
                    clear hK K
                    try simp only [Act.put, List.setIfInBounds_toArray, List.set_cons_zero, List.set_cons_succ]
                    refine wpAnyIn_ready (rs := [7, 8]) (by kernel_rfl) (by simp) ?_
                    refine AllReadyIn.cons rfl (fun K hK => ?_) ?_
                    · go_simp
                      refine hK _ _ ?_
                      clear hK K
                      try simp only [Act.put, List.setIfInBounds_toArray, List.set_cons_zero, List.set_cons_succ]
                      refine wpAnyIn_ready (rs := [8]) (by kernel_rfl) (by simp) ?_
                      refine AllReadyIn.cons rfl (fun K hK => ?_) ?_
                      · go_simp
                        refine hK _ _ ?_
                        clear hK K
                        try simp only [Act.put, List.setIfInBounds_toArray, List.set_cons_zero, List.set_cons_succ]
                        refine wpAnyIn_ready (rs := [9]) (by kernel_rfl) (by simp) ?_
                        refine AllReadyIn.cons rfl (fun K hK => ?_) ?_
                        · go_simp
                          refine hK _ _ ?_
                          clear hK K
                          try simp only [Act.put, List.setIfInBounds_toArray, List.set_cons_zero, List.set_cons_succ]
                          refine wpAnyIn_done (by kernel_rfl) ?_ _
                          exact ⟨y, W9, rfl, rfl, rfl, HY9.out, HB9.out⟩
                        exact AllReadyIn.nil
                      exact AllReadyIn.nil
                    refine AllReadyIn.cons rfl (fun K hK => ?_) ?_
                    · go_simp
                      refine hK _ _ ?_
                      clear hK K
                      try simp only [Act.put, List.setIfInBounds_toArray, List.set_cons_zero, List.set_cons_succ]
                      refine wpAnyIn_ready (rs := [7]) (by kernel_rfl) (by simp) ?_
                      refine AllReadyIn.cons rfl (fun K hK => ?_) ?_
                      · go_simp
                        refine hK _ _ ?_
                        clear hK K
                        try simp only [Act.put, List.setIfInBounds_toArray, List.set_cons_zero, List.set_cons_succ]
                        refine wpAnyIn_ready (rs := [9]) (by kernel_rfl) (by simp) ?_
                        refine AllReadyIn.cons rfl (fun K hK => ?_) ?_
                        · go_simp
                          refine hK _ _ ?_
                          clear hK K
                          try simp only [Act.put, List.setIfInBounds_toArray, List.set_cons_zero, List.set_cons_succ]
                          refine wpAnyIn_done (by kernel_rfl) ?_ _
                          exact ⟨y, W9, rfl, rfl, rfl, HY9.out, HB9.out⟩
                        exact AllReadyIn.nil
                      exact AllReadyIn.nil
                    exact AllReadyIn.nil
                  refine AllReadyIn.cons rfl (fun K hK => ?_) ?_
                  · go_simp
                    refine hK _ _ ?_
                    clear hK K
                    try simp only [Act.put, List.setIfInBounds_toArray, List.set_cons_zero, List.set_cons_succ]
                    refine wpAnyIn_ready (rs := [6]) (by kernel_rfl) (by simp) ?_
                    refine AllReadyIn.cons rfl (fun K hK => ?_) ?_
                    · go_simp
                      refine hK _ _ ?_
                      clear hK K
                      try simp only [Act.put, List.setIfInBounds_toArray, List.set_cons_zero, List.set_cons_succ]
                      refine wpAnyIn_ready (rs := [8]) (by kernel_rfl) (by simp) ?_
                      refine AllReadyIn.cons rfl (fun K hK => ?_) ?_
                      · go_simp
                        refine hK _ _ ?_
                        clear hK K
                        try simp only [Act.put, List.setIfInBounds_toArray, List.set_cons_zero, List.set_cons_succ]
                        refine wpAnyIn_ready (rs := [9]) (by kernel_rfl) (by simp) ?_
                        refine AllReadyIn.cons rfl (fun K hK => ?_) ?_
                        · go_simp
                          refine hK _ _ ?_
                          clear hK K
                          try simp only [Act.put, List.setIfInBounds_toArray, List.set_cons_zero, List.set_cons_succ]
                          refine wpAnyIn_done (by kernel_rfl) ?_ _
                          exact ⟨y, W9, rfl, rfl, rfl, HY9.out, HB9.out⟩
                        exact AllReadyIn.nil
                      exact AllReadyIn.nil
                    exact AllReadyIn.nil
                  exact AllReadyIn.nil
                exact AllReadyIn.nil
              exact AllReadyIn.nil
            exact AllReadyIn.nil
          refine AllReadyIn.cons rfl (fun K hK => ?_) ?_
          · go_simp
            refine ⟨trivial, ?_⟩
            with_reducible refine (CallsIn.inRound l (callsIn_wide.2 CT.out)).mono ?_
            rintro ee W8 ⟨rfl, rfl⟩
            refine hK _ _ ?_
            clear hK K
            try simp only [Act.put, List.setIfInBounds_toArray, List.set_cons_zero, List.set_cons_succ]
            refine wpAnyIn_ready (rs := [1]) (by kernel_rfl) (by simp) ?_
            refine AllReadyIn.cons rfl (fun K hK => ?_) ?_
            · go_simp
              refine hK _ _ ?_
              clear hK K
              try simp only [Act.put, List.setIfInBounds_toArray, List.set_cons_zero, List.set_cons_succ]
              refine wpAnyIn_ready (rs := [4]) (by kernel_rfl) (by simp) ?_
              refine AllReadyIn.cons rfl (fun K hK => ?_) ?_
              · go_simp
                refine ⟨trivial, ?_⟩
                with_reducible refine (CallsIn.inRound l (callsIn_wide.2 CP.out)).mono ?_
                rintro ee W9 ⟨⟨y, rfl, hy9⟩, hb9⟩
                have HY9 := Lib.hid hy9
                have HB9 := Lib.hid hb9
                clear hy9 hb9
                refine hK _ _ ?_
                clear hK K
                try simp only [Act.put, List.setIfInBounds_toArray, List.set_cons_zero, List.set_cons_succ]
                refine wpAnyIn_ready (rs := [5]) (by kernel_rfl) (by simp) ?_
                refine AllReadyIn.cons rfl (fun K hK => ?_) ?_
                · go_simp
                  refine hK _ _ ?_
                  clear hK K
                  try simp only [Act.put, List.setIfInBounds_toArray, List.set_cons_zero, List.set_cons_succ]
                  refine wpAnyIn_ready (rs := [6, 7]) (by kernel_rfl) (by simp) ?_
                  refine AllReadyIn.cons rfl (fun K hK => ?_) ?_
                  · go_simp
                    refine hK _ _ ?_
                    clear hK K
                    try simp only [Act.put, List.setIfInBounds_toArray, List.set_cons_zero, List.set_cons_succ]
                    refine wpAnyIn_ready (rs := [7, 8]) (by kernel_rfl) (by simp) ?_
                    refine AllReadyIn.cons rfl (fun K hK => ?_) ?_
                    · go_simp
                      refine hK _ _ ?_
                      clear hK K
                      try simp only [Act.put, List.setIfInBounds_toArray, List.set_cons_zero, List.set_cons_succ]
                      refine wpAnyIn_ready (rs := [8]) (by kernel_rfl) (by simp) ?_
                      refine AllReadyIn.cons rfl (fun K hK => ?_) ?_
                      · go_simp
                        refine hK _ _ ?_
                        clear hK K
                        try simp only [Act.put, List.setIfInBounds_toArray, List.set_cons_zero, List.set_cons_succ]
                        refine wpAnyIn_ready (rs := [9]) (by kernel_rfl) (by simp) ?_
                        refine AllReadyIn.cons rfl (fun K hK => ?_) ?_
                        · go_simp
                          refine hK _ _ ?_
                          clear hK K
                          try simp only [Act.put, List.setIfInBounds_toArray, List.set_cons_zero, List.set_cons_succ]
                          refine wpAnyIn_done (by kernel_rfl) ?_ _
                          exact ⟨y, W9, rfl, rfl, rfl, HY9.out, HB9.out⟩
                        exact AllReadyIn.nil
                      exact AllReadyIn.nil
                    refine AllReadyIn.cons rfl (fun K hK => ?_) ?_
                    · go_simp
                      refine hK _ _ ?_
                      clear hK K
                      try simp only [Act.put, List.setIfInBounds_toArray, List.set_cons_zero, List.set_cons_succ]
                      refine wpAnyIn_ready (rs := [7]) (by kernel_rfl) (by simp) ?_
                      refine AllReadyIn.cons rfl (fun K hK => ?_) ?_
                      · go_simp
                        refine hK _ _ ?_
                        clear hK K
                        try simp only [Act.put, List.setIfInBounds_toArray, List.set_cons_zero, List.set_cons_succ]
                        refine wpAnyIn_ready (rs := [9]) (by kernel_rfl) (by simp) ?_
                        refine AllReadyIn.cons rfl (fun K hK => ?_) ?_
                        · go_simp
                          refine hK _ _ ?_
                          clear hK K
                          try simp only [Act.put, List.setIfInBounds_toArray, List.set_cons_zero, List.set_cons_succ]
                          refine wpAnyIn_done (by kernel_rfl) ?_ _
                          exact ⟨y, W9, rfl, rfl, rfl, HY9.out, HB9.out⟩
                        exact AllReadyIn.nil
                      exact AllReadyIn.nil
                    exact AllReadyIn.nil
                  refine AllReadyIn.cons rfl (fun K hK => ?_) ?_
                  · go_simp
                    refine hK _ _ ?_
                    clear hK K
                    try simp only [Act.put, List.setIfInBounds_toArray, List.set_cons_zero, List.set_cons_succ]
                    refine wpAnyIn_ready (rs := [6]) (by kernel_rfl) (by simp) ?_
                    refine AllReadyIn.cons rfl (fun K hK => ?_) ?_
                    · go_simp
                      refine hK _ _ ?_
                      clear hK K
                      try simp only [Act.put, List.setIfInBounds_toArray, List.set_cons_zero, List.set_cons_succ]
                      refine wpAnyIn_ready (rs := [8]) (by kernel_rfl) (by simp) ?_
                      refine AllReadyIn.cons rfl (fun K hK => ?_) ?_
                      · go_simp
                        refine hK _ _ ?_
                        clear hK K
                        try simp only [Act.put, List.setIfInBounds_toArray, List.set_cons_zero, List.set_cons_succ]
                        refine wpAnyIn_ready (rs := [9]) (by kernel_rfl) (by simp) ?_
                        refine AllReadyIn.cons rfl (fun K hK => ?_) ?_
                        · go_simp
                          refine hK _ _ ?_
                          clear hK K
                          try simp only [Act.put, List.setIfInBounds_toArray, List.set_cons_zero, List.set_cons_succ]
                          refine wpAnyIn_done (by kernel_rfl) ?_ _
                          exact ⟨y, W9, rfl, rfl, rfl, HY9.out, HB9.out⟩
                        exact AllReadyIn.nil
                      exact AllReadyIn.nil
                    exact AllReadyIn.nil
                  exact AllReadyIn.nil
                exact AllReadyIn.nil
              exact AllReadyIn.nil
            exact AllReadyIn.nil
          exact AllReadyIn.nil
        exact AllReadyIn.nil
      refine AllReadyIn.cons rfl (fun K hK => ?_) ?_
      · go_simp
        refine hK _ _ ?_
        clear hK K
        try simp only [Act.put, List.setIfInBounds_toArray, List.set_cons_zero, List.set_cons_succ]
        refine wpAnyIn_ready (rs := [0, 3]) (by kernel_rfl) (by simp) ?_
        refine AllReadyIn.cons rfl (fun K hK => ?_) ?_
        · go_simp
          refine hK _ _ ?_
          clear hK K
          try simp only [Act.put, List.setIfInBounds_toArray, List.set_cons_zero, List.set_cons_succ]
          refine wpAnyIn_ready (rs := [1, 3]) (by kernel_rfl) (by simp) ?_
          refine AllReadyIn.cons rfl (fun K hK => ?_) ?_
          · go_simp
            refine hK _ _ ?_
            clear hK K
            try simp only [Act.put, List.setIfInBounds_toArray, List.set_cons_zero, List.set_cons_succ]
            refine wpAnyIn_ready (rs := [3]) (by kernel_rfl) (by simp) ?_
            refine AllReadyIn.cons rfl (fun K hK => ?_) ?_
            · go_simp
              refine ⟨trivial, ?_⟩
              with_reducible refine (CallsIn.inRound l (callsIn_wide.2 CT.out)).mono ?_
              rintro ee W8 ⟨rfl, rfl⟩
              refine hK _ _ ?_
              clear hK K
              try simp only [Act.put, List.setIfInBounds_toArray, List.set_cons_zero, List.set_cons_succ]
              refine wpAnyIn_ready (rs := [4]) (by kernel_rfl) (by simp) ?_
              refine AllReadyIn.cons rfl (fun K hK => ?_) ?_
              · go_simp
                refine ⟨trivial, ?_⟩
                with_reducible refine (CallsIn.inRound l (callsIn_wide.2 CP.out)).mono ?_
                rintro ee W9 ⟨⟨y, rfl, hy9⟩, hb9⟩
                have HY9 := Lib.hid hy9
                have HB9 := Lib.hid hb9
                clear hy9 hb9
                refine hK _ _ ?_
                clear hK K
                try simp only [Act.put, List.setIfInBounds_toArray, List.set_cons_zero, List.set_cons_succ]
                refine wpAnyIn_ready (rs := [5]) (by kernel_rfl) (by simp) ?_
                refine AllReadyIn.cons rfl (fun K hK => ?_) ?_
                · go_simp
                  refine hK _ _ ?_
                  clear hK K
                  try simp only [Act.put, List.setIfInBounds_toArray, List.set_cons_zero, List.set_cons_succ]
                  refine wpAnyIn_ready (rs := [6, 7]) (by kernel_rfl) (by simp) ?_
                  refine AllReadyIn.cons rfl (fun K hK => ?_) ?_
                  · go_simp
                    refine hK _ _ ?_
                    clear hK K
                    try simp only [Act.put, List.setIfInBounds_toArray, List.set_cons_zero, List.set_cons_succ]
                    refine wpAnyIn_ready (rs := [7, 8]) (by kernel_rfl) (by simp) ?_
                    refine AllReadyIn.cons rfl (fun K hK => ?_) ?_
                    · go_simp
                      refine hK _ _ ?_
                      clear hK K
                      try simp only [Act.put, List.setIfInBounds_toArray, List.set_cons_zero, List.set_cons_succ]
                      refine wpAnyIn_ready (rs := [8]) (by kernel_rfl) (by simp) ?_
                      refine AllReadyIn.cons rfl (fun K hK => ?_) ?_
                      · go_simp
                        refine hK _ _ ?_
                        clear hK K
                        try simp only [Act.put, List.setIfInBounds_toArray, List.set_cons_zero, List.set_cons_succ]
                        refine wpAnyIn_ready (rs := [9]) (by kernel_rfl) (by simp) ?_
                        refine AllReadyIn.cons rfl (fun K hK => ?_) ?_
                        · go_simp
                          refine hK _ _ ?_
                          clear hK K
                          try simp only [Act.put, List.setIfInBounds_toArray, List.set_cons_zero, List.set_cons_succ]
                          refine wpAnyIn_done (by kernel_rfl) ?_ _
                          exact ⟨y, W9, rfl, rfl, rfl, HY9.out, HB9.out⟩
                        exact AllReadyIn.nil
                      exact AllReadyIn.nil
                    refine AllReadyIn.cons rfl (fun K hK => ?_) ?_
                    · go_simp
                      refine hK _ _ ?_
                      clear hK K
                      try simp only [Act.put, List.setIfInBounds_toArray, List.set_cons_zero, List.set_cons_succ]
                      refine wpAnyIn_ready (rs := [7]) (by kernel_rfl) (by simp) ?_
                      refine AllReadyIn.cons rfl (fun K hK => ?_) ?_
                      · go_simp
                        refine hK _ _ ?_
                        clear hK K
                        try simp only [Act.put, List.setIfInBounds_toArray, List.set_cons_zero, List.set_cons_succ]
                        refine wpAnyIn_ready (rs := [9]) (by kernel_rfl) (by simp) ?_
                        refine AllReadyIn.cons rfl (fun K hK => ?_) ?_
                        · go_simp
                          refine hK _ _ ?_
                          clear hK K
                          try simp only [Act.put, List.setIfInBounds_toArray, List.set_cons_zero, List.set_cons_succ]
                          refine wpAnyIn_done (by kernel_rfl) ?_ _
                          exact ⟨y, W9, rfl, rfl, rfl, HY9.out, HB9.out⟩
                        exact AllReadyIn.nil
                      exact AllReadyIn.nil
                    exact AllReadyIn.nil
                  refine AllReadyIn.cons rfl (fun K hK => ?_) ?_
                  · go_simp
                    refine hK _ _ ?_
                    clear hK K
                    try simp only [Act.put, List.setIfInBounds_toArray, List.set_cons_zero, List.set_cons_succ]
                    refine wpAnyIn_ready (rs := [6]) (by kernel_rfl) (by simp) ?_
                    refine AllReadyIn.cons rfl (fun K hK => ?_) ?_
                    · go_simp
                      refine hK _ _ ?_
                      clear hK K
                      try simp only [Act.put, List.setIfInBounds_toArray, List.set_cons_zero, List.set_cons_succ]
                      refine wpAnyIn_ready (rs := [8]) (by kernel_rfl) (by simp) ?_
                      refine AllReadyIn.cons rfl (fun K hK => ?_) ?_
                      · go_simp
                        refine hK _ _ ?_
                        clear hK K
                        try simp only [Act.put, List.setIfInBounds_toArray, List.set_cons_zero, List.set_cons_succ]
                        refine wpAnyIn_ready (rs := [9]) (by kernel_rfl) (by simp) ?_
                        refine AllReadyIn.cons rfl (fun K hK => ?_) ?_
                        · go_simp
                          refine hK _ _ ?_
                          clear hK K
                          try simp only [Act.put, List.setIfInBounds_toArray, List.set_cons_zero, List.set_cons_succ]
                          refine wpAnyIn_done (by kernel_rfl) ?_ _
                          exact ⟨y, W9, rfl, rfl, rfl, HY9.out, HB9.out⟩
                        exact AllReadyIn.nil
                      exact AllReadyIn.nil
                    exact AllReadyIn.nil
                  exact AllReadyIn.nil
                exact AllReadyIn.nil
              exact AllReadyIn.nil
            exact AllReadyIn.nil
          refine AllReadyIn.cons rfl (fun K hK => ?_) ?_
          · go_simp
            refine ⟨trivial, ?_⟩
            with_reducible refine (CallsIn.inRound l (callsIn_wide.2 CT.out)).mono ?_
            rintro ee W8 ⟨rfl, rfl⟩
            refine hK _ _ ?_
            clear hK K
            try simp only [Act.put, List.setIfInBounds_toArray, List.set_cons_zero, List.set_cons_succ]
            refine wpAnyIn_ready (rs := [1]) (by kernel_rfl) (by simp) ?_
            refine AllReadyIn.cons rfl (fun K hK => ?_) ?_
            · go_simp
              refine hK _ _ ?_
              clear hK K
              try simp only [Act.put, List.setIfInBounds_toArray, List.set_cons_zero, List.set_cons_succ]
              refine wpAnyIn_ready (rs := [4]) (by kernel_rfl) (by simp) ?_
              refine AllReadyIn.cons rfl (fun K hK => ?_) ?_
              · go_simp
                refine ⟨trivial, ?_⟩
                with_reducible refine (CallsIn.inRound l (callsIn_wide.2 CP.out)).mono ?_
                rintro ee W9 ⟨⟨y, rfl, hy9⟩, hb9⟩
                have HY9 := Lib.hid hy9
                have HB9 := Lib.hid hb9
                clear hy9 hb9
                refine hK _ _ ?_
                clear hK K
                try simp only [Act.put, List.setIfInBounds_toArray, List.set_cons_zero, List.set_cons_succ]
                refine wpAnyIn_ready (rs := [5]) (by kernel_rfl) (by simp) ?_
                refine AllReadyIn.cons rfl (fun K hK => ?_) ?_
                · go_simp
                  refine hK _ _ ?_
                  clear hK K
                  try simp only [Act.put, List.setIfInBounds_toArray, List.set_cons_zero, List.set_cons_succ]
                  refine wpAnyIn_ready (rs := [6, 7]) (by kernel_rfl) (by simp) ?_
                  refine AllReadyIn.cons rfl (fun K hK => ?_) ?_
                  · go_simp
                    refine hK _ _ ?_
                    clear hK K
                    try simp only [Act.put, List.setIfInBounds_toArray, List.set_cons_zero, List.set_cons_succ]
                    refine wpAnyIn_ready (rs := [7, 8]) (by kernel_rfl) (by simp) ?_
                    refine AllReadyIn.cons rfl (fun K hK => ?_) ?_
                    · go_simp
                      refine hK _ _ ?_
                      clear hK K
                      try simp only [Act.put, List.setIfInBounds_toArray, List.set_cons_zero, List.set_cons_succ]
                      refine wpAnyIn_ready (rs := [8]) (by kernel_rfl) (by simp) ?_
                      refine AllReadyIn.cons rfl (fun K hK => ?_) ?_
                      · go_simp
                        refine hK _ _ ?_
                        clear hK K
                        try simp only [Act.put, List.setIfInBounds_toArray, List.set_cons_zero, List.set_cons_succ]
                        refine wpAnyIn_ready (rs := [9]) (by kernel_rfl) (by simp) ?_
                        refine AllReadyIn.cons rfl (fun K hK => ?_) ?_
                        · go_simp
                          refine hK _ _ ?_
                          clear hK K
                          try simp only [Act.put, List.setIfInBounds_toArray, List.set_cons_zero, List.set_cons_succ]
                          refine wpAnyIn_done (by kernel_rfl) ?_ _
                          exact ⟨y, W9, rfl, rfl, rfl, HY9.out, HB9.out⟩
                        exact AllReadyIn.nil
                      exact AllReadyIn.nil
                    refine AllReadyIn.cons rfl (fun K hK => ?_) ?_
                    · go_simp
                      refine hK _ _ ?_
                      clear hK K
                      try simp only [Act.put, List.setIfInBounds_toArray, List.set_cons_zero, List.set_cons_succ]
                      refine wpAnyIn_ready (rs := [7]) (by kernel_rfl) (by simp) ?_
                      refine AllReadyIn.cons rfl (fun K hK => ?_) ?_
                      · go_simp
                        refine hK _ _ ?_
                        clear hK K
                        try simp only [Act.put, List.setIfInBounds_toArray, List.set_cons_zero, List.set_cons_succ]
                        refine wpAnyIn_ready (rs := [9]) (by kernel_rfl) (by simp) ?_
                        refine AllReadyIn.cons rfl (fun K hK => ?_) ?_
                        · go_simp
                          refine hK _ _ ?_
                          clear hK K
                          try simp only [Act.put, List.setIfInBounds_toArray, List.set_cons_zero, List.set_cons_succ]
                          refine wpAnyIn_done (by kernel_rfl) ?_ _
                          exact ⟨y, W9, rfl, rfl, rfl, HY9.out, HB9.out⟩
                        exact AllReadyIn.nil
                      exact AllReadyIn.nil
                    exact AllReadyIn.nil
                  refine AllReadyIn.cons rfl (fun K hK => ?_) ?_
                  · go_simp
                    refine hK _ _ ?_
                    clear hK K
                    try simp only [Act.put, List.setIfInBounds_toArray, List.set_cons_zero, List.set_cons_succ]
                    refine wpAnyIn_ready (rs := [6]) (by kernel_rfl) (by simp) ?_
                    refine AllReadyIn.cons rfl (fun K hK => ?_) ?_
                    · go_simp
                      refine hK _ _ ?_
                      clear hK K
                      try simp only [Act.put, List.setIfInBounds_toArray, List.set_cons_zero, List.set_cons_succ]
                      refine wpAnyIn_ready (rs := [8]) (by kernel_rfl) (by simp) ?_
                      refine AllReadyIn.cons rfl (fun K hK => ?_) ?_
                      · go_simp
                        refine hK _ _ ?_
                        clear hK K
                        try simp only [Act.put, List.setIfInBounds_toArray, List.set_cons_zero, List.set_cons_succ]
                        refine wpAnyIn_ready (rs := [9]) (by kernel_rfl) (by simp) ?_
                        refine AllReadyIn.cons rfl (fun K hK => ?_) ?_
                        · go_simp
                          refine hK _ _ ?_
                          clear hK K
                          try simp only [Act.put, List.setIfInBounds_toArray, List.set_cons_zero, List.set_cons_succ]
                          refine wpAnyIn_done (by kernel_rfl) ?_ _
                          exact ⟨y, W9, rfl, rfl, rfl, HY9.out, HB9.out⟩
                        exact AllReadyIn.nil
                      exact AllReadyIn.nil
                    exact AllReadyIn.nil
                  exact AllReadyIn.nil
                exact AllReadyIn.nil
              exact AllReadyIn.nil
            exact AllReadyIn.nil
          exact AllReadyIn.nil
        refine AllReadyIn.cons rfl (fun K hK => ?_) ?_
        · go_simp
          refine ⟨trivial, ?_⟩
          with_reducible refine (CallsIn.inRound l (callsIn_wide.2 CT.out)).mono ?_
          rintro ee W8 ⟨rfl, rfl⟩
          refine hK _ _ ?_
          clear hK K
          try simp only [Act.put, List.setIfInBounds_toArray, List.set_cons_zero, List.set_cons_succ]
          refine wpAnyIn_ready (rs := [0]) (by kernel_rfl) (by simp) ?_
          refine AllReadyIn.cons rfl (fun K hK => ?_) ?_
          · go_simp
            refine hK _ _ ?_
            clear hK K
            try simp only [Act.put, List.setIfInBounds_toArray, List.set_cons_zero, List.set_cons_succ]
            refine wpAnyIn_ready (rs := [1]) (by kernel_rfl) (by simp) ?_
            refine AllReadyIn.cons rfl (fun K hK => ?_) ?_
            · go_simp
              refine hK _ _ ?_
              clear hK K
              try simp only [Act.put, List.setIfInBounds_toArray, List.set_cons_zero, List.set_cons_succ]
              refine wpAnyIn_ready (rs := [4]) (by kernel_rfl) (by simp) ?_
              refine AllReadyIn.cons rfl (fun K hK => ?_) ?_
              · go_simp
                refine ⟨trivial, ?_⟩
                with_reducible refine (CallsIn.inRound l (callsIn_wide.2 CP.out)).mono ?_
                rintro ee W9 ⟨⟨y, rfl, hy9⟩, hb9⟩
                have HY9 := Lib.hid hy9
                have HB9 := Lib.hid hb9
                clear hy9 hb9
                refine hK _ _ ?_
                clear hK K
                try simp only [Act.put, List.setIfInBounds_toArray, List.set_cons_zero, List.set_cons_succ]
                refine wpAnyIn_ready (rs := [5]) (by kernel_rfl) (by simp) ?_
                refine AllReadyIn.cons rfl (fun K hK => ?_) ?_
                · go_simp
                  refine hK _ _ ?_
                  clear hK K
                  try simp only [Act.put, List.setIfInBounds_toArray, List.set_cons_zero, List.set_cons_succ]
                  refine wpAnyIn_ready (rs := [6, 7]) (by kernel_rfl) (by simp) ?_
                  refine AllReadyIn.cons rfl (fun K hK => ?_) ?_
                  · go_simp
                    refine hK _ _ ?_
                    clear hK K
                    try simp only [Act.put, List.setIfInBounds_toArray, List.set_cons_zero, List.set_cons_succ]
                    refine wpAnyIn_ready (rs := [7, 8]) (by kernel_rfl) (by simp) ?_
                    refine AllReadyIn.cons rfl (fun K hK => ?_) ?_
                    · go_simp
                      refine hK _ _ ?_
                      clear hK K
                      try simp only [Act.put, List.setIfInBounds_toArray, List.set_cons_zero, List.set_cons_succ]
                      refine wpAnyIn_ready (rs := [8]) (by kernel_rfl) (by simp) ?_
                      refine AllReadyIn.cons rfl (fun K hK => ?_) ?_
                      · go_simp
                        refine hK _ _ ?_
                        clear hK K
                        try simp only [Act.put, List.setIfInBounds_toArray, List.set_cons_zero, List.set_cons_succ]
                        refine wpAnyIn_ready (rs := [9]) (by kernel_rfl) (by simp) ?_
                        refine AllReadyIn.cons rfl (fun K hK => ?_) ?_
                        · go_simp
                          refine hK _ _ ?_
                          clear hK K
                          try simp only [Act.put, List.setIfInBounds_toArray, List.set_cons_zero, List.set_cons_succ]
                          refine wpAnyIn_done (by kernel_rfl) ?_ _
                          exact ⟨y, W9, rfl, rfl, rfl, HY9.out, HB9.out⟩
                        exact AllReadyIn.nil
                      exact AllReadyIn.nil
                    refine AllReadyIn.cons rfl (fun K hK => ?_) ?_
                    · go_simp
                      refine hK _ _ ?_
                      clear hK K
                      try simp only [Act.put, List.setIfInBounds_toArray, List.set_cons_zero, List.set_cons_succ]
                      refine wpAnyIn_ready (rs := [7]) (by kernel_rfl) (by simp) ?_
                      refine AllReadyIn.cons rfl (fun K hK => ?_) ?_
                      · go_simp
                        refine hK _ _ ?_
                        clear hK K
                        try simp only [Act.put, List.setIfInBounds_toArray, List.set_cons_zero, List.set_cons_succ]
                        refine wpAnyIn_ready (rs := [9]) (by kernel_rfl) (by simp) ?_
                        refine AllReadyIn.cons rfl (fun K hK => ?_) ?_
                        · go_simp
                          refine hK _ _ ?_
                          clear hK K
                          try simp only [Act.put, List.setIfInBounds_toArray, List.set_cons_zero, List.set_cons_succ]
                          refine wpAnyIn_done (by kernel_rfl) ?_ _
                          exact ⟨y, W9, rfl, rfl, rfl, HY9.out, HB9.out⟩
                        exact AllReadyIn.nil
                      exact AllReadyIn.nil
                    exact AllReadyIn.nil
                  refine AllReadyIn.cons rfl (fun K hK => ?_) ?_
                  · go_simp
                    refine hK _ _ ?_
                    clear hK K
                    try simp only [Act.put, List.setIfInBounds_toArray, List.set_cons_zero, List.set_cons_succ]
                    refine wpAnyIn_ready (rs := [6]) (by kernel_rfl) (by simp) ?_
                    refine AllReadyIn.cons rfl (fun K hK => ?_) ?_
                    · go_simp
                      refine hK _ _ ?_
                      clear hK K
                      try simp only [Act.put, List.setIfInBounds_toArray, List.set_cons_zero, List.set_cons_succ]
                      refine wpAnyIn_ready (rs := [8]) (by kernel_rfl) (by simp) ?_
                      refine AllReadyIn.cons rfl (fun K hK => ?_) ?_
                      · go_simp
                        refine hK _ _ ?_
                        clear hK K
                        try simp only [Act.put, List.setIfInBounds_toArray, List.set_cons_zero, List.set_cons_succ]
                        refine wpAnyIn_ready (rs := [9]) (by kernel_rfl) (by simp) ?_
                        refine AllReadyIn.cons rfl (fun K hK => ?_) ?_
                        · go_simp
                          refine hK _ _ ?_
                          clear hK K
                          try simp only [Act.put, List.setIfInBounds_toArray, List.set_cons_zero, List.set_cons_succ]
                          refine wpAnyIn_done (by kernel_rfl) ?_ _
                          exact ⟨y, W9, rfl, rfl, rfl, HY9.out, HB9.out⟩
                        exact AllReadyIn.nil
                      exact AllReadyIn.nil
                    exact AllReadyIn.nil
                  exact AllReadyIn.nil
                exact AllReadyIn.nil
              exact AllReadyIn.nil
            exact AllReadyIn.nil
          exact AllReadyIn.nil
        exact AllReadyIn.nil
      exact AllReadyIn.nil
    · rintro e a' w' ⟨y, W9, rfl, rfl, rfl, hy, hb9⟩
      have HY9 := Lib.hid hy
      have HB9 := Lib.hid ((Gr.refl W).dr.trans hb9)
      have h59 := H5.out.gr HB9.out
      have c59 := (h59.at_ (k := 0) rfl).1
      have cl59 := h59.lt
      have z59 := (h59.at_ (k := 0) rfl).2
      clear hy hb9 CT CP h59 c5 cl5
      rcases hcase with ⟨he, hT⟩ | ⟨rfl, hN8, hT⟩
      · have hne : (e1 == 0) = false := by simpa using he
        have q2 := HI.out.r2.gr HB9.out
        have q3 := HI.out.r3.gr HB9.out
        have q4 := HI.out.r4.gr HB9.out
        have c2 : w'.cell? ⟨b2, 0, none⟩ = some (.slice none 0 0) := (q2.at_ (k := 0) rfl).1
        have z2 := (q2.at_ (k := 0) rfl).2
        have c3 : w'.cell? ⟨b3, 0, none⟩ = some (.int .i64 0) := (q3.at_ (k := 0) rfl).1
        have z3 := (q3.at_ (k := 0) rfl).2
        have c4 : w'.cell? ⟨b4, 0, none⟩ = some (.int .i64 0) := (q4.at_ (k := 0) rfl).1
        have z4 := (q4.at_ (k := 0) rfl).2
        have HX := Lib.hid (show ParX w b2 b3 b4 T ((((w'.setCell ⟨b2, 0, none⟩ (.slice none 0 0)).setCell ⟨b3, 0, none⟩ (.int .i64 (N : Int))).setCell ⟨b4, 0, none⟩ (.int .i64 e1)).drew) from
          ⟨((((HI.out.gr.trans HB9.out).st (p := ⟨b2, 0, none⟩) (by show w.heap.size ≤ b2; omega) _).st (p := ⟨b3, 0, none⟩) (by show w.heap.size ≤ b3; omega) _).st (p := ⟨b4, 0, none⟩) (by show w.heap.size ≤ b4; omega) _).dr,
           (((q2.set 0 (.slice none 0 0)).st (p := ⟨b3, 0, none⟩) (by show b3 ≠ b2; omega) _).st (p := ⟨b4, 0, none⟩) (by show b4 ≠ b2; omega) _).gr (Gr.refl _).dr,
           by rw [hT]; exact (((q3.st (p := ⟨b2, 0, none⟩) (by show b2 ≠ b3; omega) _).set 0 (.int .i64 (N : Int))).st (p := ⟨b4, 0, none⟩) (by show b4 ≠ b3; omega) _).gr (Gr.refl _).dr,
           by rw [hT]; exact (((q4.st (p := ⟨b2, 0, none⟩) (by show b2 ≠ b4; omega) _).st (p := ⟨b3, 0, none⟩) (by show b3 ≠ b4; omega) _).set 0 (.int .i64 e1)).gr (Gr.refl _).dr, by rw [hT]⟩)
        have HK := Lib.hid (((keeps_gr HB9.out).trans ((KeepsOthers.setCell w' ⟨b2, 0, none⟩ (.slice none 0 0)).trans ((KeepsOthers.setCell _ ⟨b3, 0, none⟩ (.int .i64 (N : Int))).trans ((KeepsOthers.setCell _ ⟨b4, 0, none⟩ (.int .i64 e1)).trans (keeps_gr (Gr.refl _).dr))))).from w6.heap.size)
        clear q2 q3 q4 hT he
        gi_wp2_with fail
        gi_region
        all_goals (gi_wp2_with fail; exact ⟨HK.out, rfl, HX.out⟩)
      · have hyo := HY9.out.1
        have hyl := HY9.out.2.1
        have hlt9 := HY9.out.2.2
        have hown9 := (HO.out.gr HB9.out).gr ((Gr.refl w').al (.cells #[.slice y.A y.n y.c] 32))
        have hws : W.heap.size ≤ w'.heap.size := HB9.out.size
        have hlate := hown9.late
        have hrowb : ∀ k, A.map (·.block) = some k → k < W.heap.size := fun k hk => by
          rcases HO.out.row.2.2.2 with ⟨rfl, _⟩ | ⟨b, off, rfl, _, h1, _⟩
          · cases hk
          · simp at hk; omega
        have hrowc : ∀ (k : Nat) (o : Obj), A.map (·.block) = some k → (w'.alloc (.cells #[.slice y.A y.n y.c] 32)).heap[k]? = some o → o.isCells = true := fun k o hk ho => by
          rcases hown9.row.2.2.2 with ⟨rfl, _⟩ | ⟨b, off, rfl, _, h1, h2⟩
          · cases hk
          · rcases hA0 with h | h
            · cases h
            · simp at hk
              subst hk
              obtain ⟨v, hv⟩ := Option.isSome_iff_exists.1 (h2 0 h).1
              obtain ⟨o', ho', hc'⟩ := cells_of_cell hv
              rw [show (w'.alloc (.cells #[.slice y.A y.n y.c] 32)).heap[b]? = some o' from ho'] at ho
              cases ho
              exact hc'
        have HOFF : Hid (∀ x ∈ [y], 0 < x.n → ∀ k, x.A.map (·.block) = some k → b5 + 2 ≤ k ∧ k < (w'.alloc (.cells #[.slice y.A y.n y.c] 32)).heap.size ∧ A.map (·.block) ≠ some k) := Lib.hid fun x hx h0 k hk => by
          rw [List.mem_singleton] at hx
          subst hx
          have h1 := hlt9 k hk
          obtain ⟨b, off, e, hb, _⟩ := hyo.1.2.2 h0
          rw [e] at hk
          simp at hk
          have h2 : W.heap.size ≤ k := h1
          refine ⟨by omega, by rw [World.size_alloc]; omega, fun e2 => ?_⟩
          have := hrowb k e2
          omega
        have HOW := Lib.hid hown9
        have HPM := Lib.hid (pmem_one (x := y) (Blk.new w' #[.slice y.A y.n y.c] 32) (hyo.gr ((Gr.refl w').al _)))
        have hbase : b5 + 2 ≤ (w'.alloc (.cells #[.slice y.A y.n y.c] 32)).heap.size := by rw [World.size_alloc]; omega
        have FIN : Hid (∀ A' c' w3, Grown (w'.alloc (.cells #[.slice y.A y.n y.c] 32)) (b5 + 2) (b5 + 2) A N 1 R [y] A' c' w3 →
            (w3.cell? ⟨b5, 0, none⟩ = some (.slice A N c) ∧ w3.frozen? ⟨b5, 0, none⟩ = false) ∧ KeepsFrom w6.heap.size W (w3.setCell ⟨b5, 0, none⟩ (.slice A' (N + 1) c')) ∧ KpS w.heap.size (b5 + 1) W (w3.setCell ⟨b5, 0, none⟩ (.slice A' (N + 1) c')) ∧
              ParI w b2 b3 b4 b5 T (lns [] t) (pre ++ [x]) (w3.setCell ⟨b5, 0, none⟩ (.slice A' (N + 1) c'))) := Lib.hid fun A' c' w3 hG => by
          obtain ⟨hP, hgrow⟩ := hG
          have ga : Gr w' (w'.alloc (.cells #[.slice y.A y.n y.c] 32)) := (Gr.refl w').al _
          have gWa := HB9.out.trans ga
          generalize w'.alloc (.cells #[.slice y.A y.n y.c] 32) = wa at *
          have f5 := ((H5.out.gr gWa).gb hgrow (fun e => by have := hlate _ e; omega))
          have k1 : KeepsOthers wa w3 := KeepsOthers.of_grownBy hgrow hrowc
          refine ⟨⟨(f5.at_ (k := 0) rfl).1, (f5.at_ (k := 0) rfl).2⟩, (((keeps_gr gWa).trans k1).trans (KeepsOthers.setCell _ _ _)).from _, ⟨?_, fun cs tt hb => ?_⟩, ?_⟩
          · have hB : w.heap.size ≤ W.heap.size := HI.out.gr.size
            exact ((Below.mono gWa hB).grown hgrow (Nat.le_trans hB gWa.size) (fun k e => by have := hlate k e; omega)).setCell (p := ⟨b5, 0, none⟩) (by show w.heap.size ≤ b5; omega) _
          · exact ((hb.gr gWa).gb hgrow (fun e => by have := hlate _ e; omega)).st (p := ⟨b5, 0, none⟩) (by show b5 ≠ b5 + 1; omega) _
          · refine ⟨((HI.out.gr.trans gWa).gb hgrow (fun k e => by have := hlate k e; omega)).st (p := ⟨b5, 0, none⟩) (by show w.heap.size ≤ b5; omega) _,
              ((HI.out.r2.gr gWa).gb hgrow (fun e => by have := hlate _ e; omega)).st (p := ⟨b5, 0, none⟩) (by show b5 ≠ b2; omega) _,
              ((HI.out.r3.gr gWa).gb hgrow (fun e => by have := hlate _ e; omega)).st (p := ⟨b5, 0, none⟩) (by show b5 ≠ b3; omega) _,
              ((HI.out.r4.gr gWa).gb hgrow (fun e => by have := hlate _ e; omega)).st (p := ⟨b5, 0, none⟩) (by show b5 ≠ b4; omega) _, A', c', R ++ [y], ?_⟩
            rw [List.length_append, HNN.out]
            refine ⟨f5.set 0 _, hP.st (by omega) (by omega) _, ?_, by simp; omega, .inr (by have := hP.row.2.1; omega)⟩
            rw [show pl (R ++ [y]) = pl R ++ [p] from by unfold pl; rw [List.map_append, ← hyl]; rfl]
            exact hT
        clear hyo hyl hlt9 hown9 hrowb hrowc hlate hT hA0
        gi_wp2_with (gi_at_builtin; refine Mark.stop ?_)
        refine Mark.go ?_
        refine wpListIn_append_progs (news := [y]) rfl (.tmp 28) (.tmp 30) rfl rfl rfl HOW.out HPM.out HOFF.out (by omega) hbase ?_
        intro A' c' w3 hG
        obtain ⟨⟨f1, f2⟩, hF⟩ := FIN.out _ _ _ hG
        have HFF := Lib.hid hF
        clear hF hG
        gi_wp2_with fail
        exact HFF.out
  case done =>
    rintro D W hD hI hK
    obtain ⟨A, c, R, h5, hown, hcomb, _, _⟩ := hI.row
    have hl : (raws t).length = (lns [] t).length := by rw [← hmaps.out, List.length_map]
    obtain ⟨N, hN⟩ : ∃ N, (raws t).length = N := ⟨_, rfl⟩
    rw [hl, List.drop_length, lnsP_end] at hcomb
    rw [hN] at h5 hown
    obtain rfl : T = (0, 0, pl R) := hcomb.symm
    have c5 : W.cell? ⟨b5, 0, none⟩ = some (.slice A N c) := (h5.at_ (k := 0) rfl).1
    have c2 : W.cell? ⟨b2, 0, none⟩ = some (.slice none 0 0) := (hI.r2.at_ (k := 0) rfl).1
    have z2 := (hI.r2.at_ (k := 0) rfl).2
    have c3 : W.cell? ⟨b3, 0, none⟩ = some (.int .i64 0) := (hI.r3.at_ (k := 0) rfl).1
    have z3 := (hI.r3.at_ (k := 0) rfl).2
    have c4 : W.cell? ⟨b4, 0, none⟩ = some (.int .i64 0) := (hI.r4.at_ (k := 0) rfl).1
    have z4 := (hI.r4.at_ (k := 0) rfl).2
    have hDk := Lib.hid hK
    have HO := Lib.hid hown
    have HIR := Lib.hid hI
    clear hK hown hI h5 hN hl hcomb
    have HBB := Lib.hid hb2
    clear hstops
    gi_wp2_with fail
    have keep := ((KeepsOthers.setCell W ⟨b2, 0, none⟩ (.slice A N c)).trans (KeepsOthers.setCell _ ⟨b3, 0, none⟩ (.int .i64 0))).trans (KeepsOthers.setCell _ ⟨b4, 0, none⟩ (.int .i64 0))
    have hK1 := keep.same D _ hDk.out rfl
    have D2 := ((HIR.out.r2.set 0 (.slice A N c)).st (p := ⟨b3, 0, none⟩) (by show b3 ≠ b2; omega) (.int .i64 0)).st (p := ⟨b4, 0, none⟩) (by show b4 ≠ b2; omega) (.int .i64 0)
    have D3 := ((HIR.out.r3.st (p := ⟨b2, 0, none⟩) (by show b2 ≠ b3; omega) (.slice A N c)).set 0 (.int .i64 0)).st (p := ⟨b4, 0, none⟩) (by show b4 ≠ b3; omega) (.int .i64 0)
    have D4 := ((HIR.out.r4.st (p := ⟨b2, 0, none⟩) (by show b2 ≠ b4; omega) (.slice A N c)).st (p := ⟨b3, 0, none⟩) (by show b3 ≠ b4; omega) (.int .i64 0)).set 0 (.int .i64 0)
    have DO := ((HO.out.st (b := b2) (by omega) (by omega) (.slice A N c)).st (b := b3) (by omega) (by omega) (.int .i64 0)).st (b := b4) (by omega) (by omega) (.int .i64 0)
    have DG := ((HIR.out.gr.st (p := ⟨b2, 0, none⟩) (by show w.heap.size ≤ b2; omega) (.slice A N c)).st (p := ⟨b3, 0, none⟩) (by show w.heap.size ≤ b3; omega) (.int .i64 0)).st (p := ⟨b4, 0, none⟩) (by show w.heap.size ≤ b4; omega) (.int .i64 0)
    refine ⟨by simp, .inl ⟨_, _, rfl, run_takeDeferred hK1, ?_⟩⟩
    clear c2 z2 c3 z3 c4 z4 c5 keep
    generalize ((W.setCell ⟨b2, 0, none⟩ (.slice A N c)).setCell ⟨b3, 0, none⟩ (.int .i64 0)).setCell ⟨b4, 0, none⟩ (.int .i64 0) = WE at *
    have hr : ∀ r, some D = some r → ∃ o : Obj, WE.heap[r]? = some o ∧ o.isCells = false := fun r e => by cases e; exact ⟨_, hK1, rfl⟩
    have E2 := blk_kept D2 (grownBy_putObj' WE D (.deferred none)) hr
    have E3 := blk_kept D3 (grownBy_putObj' WE D (.deferred none)) hr
    have E4 := blk_kept D4 (grownBy_putObj' WE D (.deferred none)) hr
    have EO := DO.kept (grownBy_putObj' WE D (.deferred none)) hr
    have EG := DG.gb (grownBy_putObj' WE D (.deferred none)) (fun k e => by cases e; exact Nat.le_trans HG6.out.size hD)
    clear D2 D3 D4 DO DG hK1 hr
    generalize WE.putObj D (.deferred none) = WF at *
    have q2 : WF.cell? ⟨b2, 0, none⟩ = some (.slice A N c) := (E2.at_ (k := 0) rfl).1
    have q3 : WF.cell? ⟨b3, 0, none⟩ = some (.int .i64 0) := (E3.at_ (k := 0) rfl).1
    have q4 : WF.cell? ⟨b4, 0, none⟩ = some (.int .i64 0) := (E4.at_ (k := 0) rfl).1
    exact ⟨.tuple #[.slice A N c, .int .i64 0, .int .i64 0], by simp [results, Tryd.results8, go_sem, HBB.out, q2, q3, q4], ⟨A, N, c, rfl, R, rfl, EO.low (by omega) (by omega)⟩, EG⟩
  case stop =>
    rintro D cc pre W hD hpre ⟨rfl, hX⟩ hK
    have HX := Lib.hid hX
    have HK := Lib.hid hK
    clear hX hK hpre
    gi_wp2_with fail
    refine ⟨by simp, .inl ⟨_, _, rfl, run_takeDeferred HK.out, ?_⟩⟩
    have E2 := blk_kept HX.out.r2 (grownBy_putObj' W D (.deferred none)) (fun r e => by cases e; exact ⟨_, HK.out, rfl⟩)
    have E3 := blk_kept HX.out.r3 (grownBy_putObj' W D (.deferred none)) (fun r e => by cases e; exact ⟨_, HK.out, rfl⟩)
    have E4 := blk_kept HX.out.r4 (grownBy_putObj' W D (.deferred none)) (fun r e => by cases e; exact ⟨_, HK.out, rfl⟩)
    have EG := HX.out.gr.gb (grownBy_putObj' W D (.deferred none)) (fun k e => by cases e; exact Nat.le_trans HG6.out.size hD)
    have hno := HX.out.no
    generalize W.putObj D (.deferred none) = WF at *
    have q2 : WF.cell? ⟨b2, 0, none⟩ = some (.slice none 0 0) := (E2.at_ (k := 0) rfl).1
    have q3 : WF.cell? ⟨b3, 0, none⟩ = some (.int .i64 T.2.1) := (E3.at_ (k := 0) rfl).1
    have q4 : WF.cell? ⟨b4, 0, none⟩ = some (.int .i64 T.1) := (E4.at_ (k := 0) rfl).1
    exact ⟨.tuple #[.slice none 0 0, .int .i64 T.2.1, .int .i64 T.1], by simp [results, Tryd.results8, go_sem, hb2, q2, q3, q4], ⟨none, 0, 0, rfl, by rw [hno]; exact GotL.nil⟩, EG⟩
/-- What Parse answers: the programs, the line, the error. -/
theorem Parse_is {t : Bs} (ht : t.length ≤ 9223372036854775807) {w : World} (hg : Glob w) {e0 k0 : Int} {P : List (List Ac)} (hT : prs t = (e0, k0, P)) :
    Calls Tryd.prog 8 #[.string (bs t)] w fun e w' => (∃ A n c, e = .returned (.tuple #[.slice A n c, .int .i64 k0, .int .i64 e0]) ∧ GotL w.heap.size w' P A n c) ∧ Gr w w' := by
  unfold prs at hT
  by_cases h : 2000 < t.length
  · rw [if_pos h] at hT
    cases hT
    exact (Parse_long h w).mono fun e w' ⟨h1, h2⟩ => ⟨⟨none, 0, 0, h1, GotL.nil⟩, h2⟩
  · rw [if_neg h] at hT
    exact Parse_short (by omega) hg hT
end P12
end Go.Proofs.YtocojdiapaeajaaDoor
