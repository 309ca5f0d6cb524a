/-
  Package prog: Print and printLine: the text of programs that may be.
-/
import Derived.Test.YtocojdiapaeajaaDoorProgFn
import Derived.Test.YtocojdiapaeajaaDoorProgParse
import Derived.Laws.MakeOwn
import Derived.Laws.OwnMore
namespace Go.Proofs.YtocojdiapaeajaaDoor
open Go.ChangeShapes Go.WideShapes Go.ChangeAt Go.RowKit
open Go.Shelf
set_option linter.unusedVariables false
set_option linter.unusedSimpArgs false
set_option maxRecDepth 100000
namespace P12

/-! How long texts are. -/
theorem wd_len (k : Int) : (wd k).length ≤ 6 := by unfold wd; split <;> (try split) <;> (try split) <;> decide
theorem okA_num {a : Ac} (h : okA a = true) : 0 ≤ a.2 ∧ a.2 ≤ 999999 ∧ 0 ≤ a.1 ∧ a.1 ≤ 3 := by
  rcases okA_iff.1 h with ⟨h1, h2, h3⟩ | ⟨h1, h2, h3, h4⟩ <;> omega
theorem actS_len {a : Ac} (h : okA a = true) : (actS a).length ≤ 13 := by
  have h1 := wd_len a.1
  have h2 := okA_num h
  have h3 := (dgs_len ⟨h2.1, h2.2.1⟩).2
  unfold actS
  rw [List.length_append, List.length_cons]
  omega
theorem lineS_len : ∀ (p : List Ac), (∀ a ∈ p, okA a = true) → (lineS p).length ≤ 15 * p.length
  | [], _ => by rw [lineS_nil]; exact Nat.zero_le _
  | [a], h => by
    rw [lineS_one]
    have := actS_len (h a (by simp))
    simp only [List.length_cons, List.length_nil]
    omega
  | a :: b :: p, h => by
    rw [lineS_cons, List.length_append, List.length_cons, List.length_cons]
    have h1 := actS_len (h a (by simp))
    have h2 := lineS_len (b :: p) (fun x hx => h x (List.mem_cons_of_mem _ hx))
    simp only [List.length_cons] at h2 ⊢
    omega

theorem Join_is {w : World} {A : Option Addr} {n c : Nat} {L : List Bs} (hm : StrMem w A n L) (hc : n ≤ c) (hn : n ≤ 1000) (hl : (Lib.join L [59, 32]).length ≤ 1000000) :
    Calls Tryd.prog 43 #[.slice A n c, .string ⟨#[59, 32]⟩] w fun e w' => e = .returned (.string (bs (Lib.join L [59, 32]))) ∧ Gr w w' := by
  have hlen : L.length = n := hm.1
  have hmap : (L.map bs).map (·.data.toList) = L := by
    rw [List.map_map]
    conv => rhs; rw [← List.map_id L]
    exact List.map_congr_left fun x _ => bs_list x
  by_cases h0 : n = 0
  · subst h0
    obtain rfl : L = [] := List.eq_nil_of_length_eq_zero hlen
    refine (Any.strings_Join_none { Tryd.laysJoin with } Tryd.extraJoin A c ⟨#[59, 32]⟩ w).mono ?_
    rintro e w' ⟨rfl, rfl⟩
    exact ⟨rfl, Gr.refl _⟩
  · obtain ⟨b, off, rfl, hb, hcell⟩ := hm.2.2 (by omega)
    have h := Any.strings_Join { Tryd.laysJoin with } Tryd.extraJoin b off c (L.map bs) ⟨#[59, 32]⟩ w (fun j x hx => by
        rw [List.getElem?_map] at hx
        cases hy : L[j]? with
        | none => rw [hy] at hx; cases hx
        | some y =>
          rw [hy] at hx
          cases hx
          exact hcell j y hy) hb (by rw [List.length_map]; omega) (by rw [List.length_map]; omega) (by rw [hmap]; exact Nat.le_trans hl (by omega))
    rw [hmap, List.length_map, hlen] at h
    exact h

/-! printLine. -/
/-- The pieces, so many of them written. -/
def pcsRow (p : List Ac) (k : Nat) : Array Value := ((p.take k).map (fun a => Value.string (bs (actS a))) ++ List.replicate (p.length - k) (Value.string ⟨#[]⟩)).toArray
theorem pcsRow_size (p : List Ac) (k : Nat) (h : k ≤ p.length) : (pcsRow p k).size = p.length := by
  simp [pcsRow]; omega
theorem pcsRow_step {p : List Ac} {k : Nat} {a : Ac} (h : p[k]? = some a) : (pcsRow p k).setIfInBounds k (.string (bs (actS a))) = pcsRow p (k + 1) := by
  obtain ⟨hk, rfl⟩ := List.getElem?_eq_some_iff.1 h
  apply Array.ext'
  unfold pcsRow
  rw [Array.toList_setIfInBounds]
  have e1 : List.replicate (p.length - k) (Value.string ⟨#[]⟩) = .string ⟨#[]⟩ :: List.replicate (p.length - (k + 1)) (.string ⟨#[]⟩) := by
    rw [show p.length - k = (p.length - (k + 1)) + 1 by omega, List.replicate_succ]
  have e2 : k = ((p.take k).map fun a => Value.string (bs (actS a))).length := by rw [List.length_map, List.length_take]; omega
  have e3 : p.take (k + 1) = p.take k ++ [p[k]] := by rw [List.take_add_one, h]; rfl
  rw [e1, e3, List.map_append]
  simp only [List.toList_toArray]
  conv => lhs; arg 2; rw [e2]
  rw [List.set_append_right _ _ (Nat.le_refl _), Nat.sub_self, List.set_cons_zero]
  simp
theorem pcsRow_end (p : List Ac) : pcsRow p p.length = ((p.map actS).map fun l => Value.string (bs l)).toArray := by
  unfold pcsRow
  rw [List.take_length, Nat.sub_self, List.replicate_zero, List.append_nil, List.map_map]
  rfl
theorem pcsRow_zero (p : List Ac) : pcsRow p 0 = (List.replicate p.length (Value.string ⟨#[]⟩)).toArray := by
  unfold pcsRow
  rw [List.take_zero, List.map_nil, List.nil_append, Nat.sub_zero]

theorem make_strs (n : Nat) (hn : n ≤ 1000000) (W : World) :
    (Instr.makeSlice 47 (.int .i64 (n : Int)) (.int .i64 (n : Int))).run Tryd.prog W = .ok (.slice (some ⟨W.heap.size, 0, none⟩) n n) (W.alloc (.cells (List.replicate n (Value.string ⟨#[]⟩)).toArray 9)) := by
  obtain ⟨i, h1, e1, e2, e3⟩ := info_parts infoStr
  dsimp only at e1 e2 e3
  have h := run_make (P := Tryd.prog) W 47 9 i (.string ⟨#[]⟩) Tryd.underlying47 h1 e1 .i64 .i64 n n (by omega) (by omega) (by rw [e3]; omega) (by omega)
  simp only [Int.toNat_natCast, e2, Nat.mul_one] at h
  rw [h]
  congr 3
  apply Array.ext'
  exact toList_madeCells_one _ n
theorem pcsRow_at {p : List Ac} {k : Nat} (h : k < p.length) : (pcsRow p k)[k]? = some (.string ⟨#[]⟩) := by
  unfold pcsRow
  rw [List.getElem?_toArray, List.getElem?_append_right (by rw [List.length_map, List.length_take]; omega), List.length_map, List.length_take, List.getElem?_replicate]
  rw [if_pos (by omega)]
theorem act_parts (a : Ac) : bs (wd a.1) ++ ⟨#[32]⟩ ++ bs (dgs a.2) = bs (actS a) := by
  have e : (⟨#[32]⟩ : ByteArray) = bs [32] := rfl
  rw [e, bs_append, bs_append]
  unfold actS
  simp

set_option maxHeartbeats 4000000 in
theorem printLine_is {w : World} {A : Option Addr} {n c : Nat} {p : List Ac} (hg : Glob w) (hm : Mem w A n p) (hok : ∀ a ∈ p, okA a = true) (hn : n ≤ 64) :
    Calls Tryd.prog 26 #[.slice A n c] w fun e w' => e = .returned (.string (bs (lineS p))) ∧ Gr w w' := by
  have hlen : p.length = n := hm.1
  have hmk := make_strs n (by omega)
  have HM := Lib.hid hm
  have HK := Lib.hid hok
  have HL := Lib.hid hlen
  have HB0 := Lib.hid (show Blk (w.alloc (.cells (List.replicate n (Value.string ⟨#[]⟩)).toArray 9)) w.heap.size (pcsRow p 0) 9 by
    rw [pcsRow_zero, hlen]; exact Blk.new w _ _)
  clear hm hok hlen
  go_enter Tryd.func26, Tryd.ntmps26
  go_wp2_with fail
  go_loopw [11] (fun i wr => ∃ (k : Nat), k ≤ n ∧ i = .int .i64 (k : Int) ∧ Hid (Blk wr w.heap.size (pcsRow p k) 9) ∧ Hid (Gr w wr)) (fun i _ => n - (intOf i).toNat)
  case atStart => exact ⟨0, Nat.zero_le _, rfl, HB0, Lib.hid ((Gr.refl w).al _)⟩
  case round =>
    obtain ⟨k, hk, rfl, HB, HG⟩ := hrel
    by_cases hlt : k < n
    · obtain ⟨b, off, x, rfl, hbl, hx, h1, h2, c0, c1⟩ := (HM.out.gr HG.out).at_ hlt
      have hkp : k < p.length := by rw [HL.out]; exact hlt
      have hxo := HK.out x (List.mem_of_getElem? hx)
      obtain ⟨n0, n1, n2, n3⟩ := okA_num hxo
      have HST := Lib.hid (pcsRow_step hx)
      have HAT := Lib.hid (pcsRow_at hkp)
      have HAP := Lib.hid (act_parts x)
      have l1 := wd_len x.1
      have l2 := (dgs_len ⟨n0, n1⟩).2
      rw [← bs_size] at l1 l2
      obtain ⟨y0, x1⟩ := x
      dsimp only at *
      obtain ⟨x0, rfl⟩ : ∃ q : Nat, y0 = (q : Int) := ⟨y0.toNat, by omega⟩
      have hG5 := (Gr.refl wr).al (.cells #[.int .i64 (x0 : Int), .int .i64 x1] 38)
      obtain ⟨cw, lw⟩ := ((hg.gr HG.out).gr hG5.dr).word (k := (x0 : Int)) ⟨n2, n3⟩
      rw [Int.toNat_natCast] at cw
      have ci := fun W (g : Gr wr W) => Lib.hid (Itoa_is n0 (by omega) ((hg.gr HG.out).gr g))
      have k0 : (0 : Int) ≤ (k : Int) := by omega
      have k1 : (k : Int) < (n : Int) := by omega
      have x4 : (x0 : Int) < 4 := by omega
      obtain ⟨S1, hS1⟩ : ∃ S, bs (wd (x0 : Int)) = S := ⟨_, rfl⟩
      obtain ⟨S2, hS2⟩ : ∃ S, bs (dgs x1) = S := ⟨_, rfl⟩
      rw [hS1] at cw l1 HAP
      rw [hS2] at l2 HAP
      simp only [hS2] at ci
      clear hS1 hS2
      have z1 : ¬ 9223372036854775807 < S1.size + 1 := by omega
      have z2 : ¬ 9223372036854775807 < S1.size + 1 + S2.size := by omega
      clear l1 l2 hx hxo n2 n3 h1 h2
      go_wp2_with fail
      have cX := (Blk.new wr #[.int .i64 (x0 : Int), .int .i64 x1] 38).gr (Gr.refl _).dr
      have y0' := (cX.at_ (k := 0) rfl).1
      have y1' := (cX.at_ (k := 1) rfl).1
      have hlw : w.heap.size < wr.heap.size := HB.out.lt
      have hwG : 0 < w.heap.size := (hg.word (k := 0) (by omega)).2
      go_region_held3 (fun w' => w'.cell? ⟨wr.heap.size, 0, none⟩ = some (.int .i64 (x0 : Int)) ∧ w'.cell? ⟨wr.heap.size, 1, none⟩ = some (.int .i64 x1) ∧ w'.cell? ⟨0, x0, none⟩ = some (.string S1))
        (first | exact ⟨y0', y1', cw⟩ | exact ⟨z0', z1', zw⟩ | exact ⟨(World.cell?_setCell_other _ _ _ _ (by intro e; injection e; omega)).trans z0', (World.cell?_setCell_other _ _ _ _ (by intro e; injection e; omega)).trans z1', (World.cell?_setCell_other _ _ _ _ (by intro e; injection e; omega)).trans zw⟩)
        ((go_at_call 42; ((with_reducible refine (ci _ hG5.dr).out.mono ?_); rintro e wI ⟨rfl, hbI⟩; have hI := hG5.dr.trans hbI; have cI : Blk wI wr.heap.size #[.int .i64 (x0 : Int), .int .i64 x1] 38 := cX.gr hbI; have z0' : wI.cell? ⟨wr.heap.size, 0, none⟩ = some (.int .i64 (x0 : Int)) := (cI.at_ (k := 0) rfl).1; have z1' : wI.cell? ⟨wr.heap.size, 1, none⟩ = some (.int .i64 x1) := (cI.at_ (k := 1) rfl).1; have zw : wI.cell? ⟨0, x0, none⟩ = some (.string S1) := (Below.cell (p := ⟨0, x0, none⟩) hbI lw).trans cw; have bI := HB.out.gr hI; have f0 := (bI.at_ HAT.out).1; have f1 := (bI.at_ HAT.out).2)))
      rw [HAP.out]
      have HB2 := Lib.hid (show Blk (wI.setCell ⟨w.heap.size, k, none⟩ (.string (bs (actS ((x0 : Int), x1))))) w.heap.size (pcsRow p (k + 1)) 9 from by
        have h9 := bI.set k (.string (bs (actS ((x0 : Int), x1))))
        rw [HST.out] at h9
        exact h9)
      have HG2 := Lib.hid ((HG.out.trans hI).st (p := ⟨w.heap.size, k, none⟩) (Nat.le_refl _) (.string (bs (actS ((x0 : Int), x1)))))
      clear HB bI HG hI f0 f1 z0' z1' zw cI cX y0' y1' cw hbI
      go_wp2_with fail
      go_roundw
      case rel => exact ⟨k + 1, by omega, by go_num, HB2, HG2⟩
      case measure => simp [intOf]; omega
    · obtain rfl : k = n := by omega
      have hpn : p.length = k := HL.out
      have HS := Lib.hid (show StrMem wr (some ⟨w.heap.size, 0, none⟩) k (p.map actS) from by
        have h1 := HB.out
        rw [← hpn, pcsRow_end] at h1
        have h2 := str_mem_of_blk h1 (fun x hx => by
          obtain ⟨y, hy, rfl⟩ := List.mem_map.1 hx
          have := actS_len (HK.out y hy)
          omega)
        rw [List.length_map, hpn] at h2
        exact h2)
      have cj := Lib.hid (Join_is (c := k) HS.out (Nat.le_refl _) (by omega) (by
        have h3 := lineS_len p HK.out
        have h4 : (Lib.join (p.map actS) [59, 32]).length = (lineS p).length := rfl
        omega))
      rw [show Lib.join (p.map actS) [59, 32] = lineS p from rfl] at cj
      clear HS hpn
      go_wp2_with fail
      with_reducible refine cj.out.mono ?_
      rintro e w1 ⟨rfl, hb1⟩
      go_wp2_with fail
      go_ret
      exact ⟨rfl, HG.out.trans hb1⟩

/-! Print. -/
theorem textS_len : ∀ (l : List (List Ac)), Fit l → (textS l).length ≤ 961 * l.length
  | [], _ => Nat.zero_le _
  | p :: l, h => by
    rw [textS_cons, List.length_append, List.length_cons, List.length_cons]
    have h1 := textS_len l (fun q hq => h q (List.mem_cons_of_mem _ hq))
    have h2 := h p List.mem_cons_self
    have h3 := lineS_len p h2.2
    omega
theorem Bld.gr {w w' : World} {b : Nat} {l : Bs} (h : Bld w b l) (g : Gr w w') : Bld w' b l := by
  have one : ∀ p, Lib.BuilderAt 53 5 b b p (Lib.byteCells l) w → Lib.BuilderAt 53 5 b b p (Lib.byteCells l) w' := by
    rintro p ⟨h1, v, h2, h3, h4⟩
    have hlt : b < w.heap.size := (Array.getElem?_eq_some_iff.1 h2).1
    refine ⟨h1, v, (g.block b hlt).trans h2, ?_, h4⟩
    exact World.ownsRow.kept (row := none) h3 ⟨g.os, g.tape, g.output, g.size, fun k hk _ => g.block k hk⟩ (by cases v.ownBlock <;> simp)
  exact h.elim (fun h => .inl (one _ h)) (fun h => .inr (one _ h))

theorem Print_no {w : World} {A : Option Addr} {n c : Nat} {R : List PV} (hB : rightB (pl R) = false) (hn : n ≤ 9223372036854775807) (hm : PMem w A n R) :
    Calls Tryd.prog 13 #[.slice A n c] w fun e w' => e = .returned (.tuple #[.string ⟨#[]⟩, .int .i64 1]) ∧ Gr w w' := by
  have cr := Lib.hid (Right_is (c := c) hB hn w hm)
  go_enter Tryd.func13, Tryd.ntmps13
  go_wp2_with fail
  with_reducible refine cr.out.mono ?_
  rintro e w1 ⟨rfl, hb1⟩
  go_wp2_with fail
  go_ret2
  exact ⟨rfl, hb1⟩

set_option maxHeartbeats 4000000 in
theorem Print_ok {w : World} {A : Option Addr} {n c : Nat} {R : List PV} (hg : Glob w) (hB : rightB (pl R) = true) (hm : PMem w A n R) :
    Calls Tryd.prog 13 #[.slice A n c] w fun e w' => e = .returned (.tuple #[.string (bs (textS (pl R))), .int .i64 0]) ∧ Gr w w' := by
  obtain ⟨h8, hfit⟩ := right_iff.1 hB
  have hlen : (pl R).length = n := by unfold pl; rw [List.length_map, hm.len]
  have hn8 : n ≤ 8 := by omega
  have cr := Lib.hid (Right_is (c := c) hB (by omega) w hm)
  have HM := Lib.hid hm
  have HF := Lib.hid hfit
  have HL := Lib.hid hlen
  clear hm hfit hlen h8 hB
  go_enter Tryd.func13, Tryd.ntmps13
  go_wp2_with fail
  with_reducible refine cr.out.mono ?_
  rintro e w1 ⟨rfl, hb1⟩
  have HB0 := Lib.hid (show Bld (w1.alloc (.cells #[.pointer none, .slice none 0 0] 53)) w1.heap.size (textS ((pl R).take 0)) from Lib.fresh_isBuilder _ _ w1)
  obtain ⟨g0, hg0⟩ : ∃ g0, w1.heap.size = g0 := ⟨_, rfl⟩
  have hg1 : w.heap.size ≤ g0 := by rw [← hg0]; exact hb1.size
  have HG0 := Lib.hid (hb1.al (.cells #[.pointer none, .slice none 0 0] 53))
  have hg2 : g0 ≤ (w1.alloc (.cells #[.pointer none, .slice none 0 0] 53)).heap.size := by rw [World.size_alloc]; omega
  have HZ := Lib.hid hg0
  rw [hg0] at HB0
  clear hg0 cr hb1
  go_wp2_with fail
  rw [HZ.out]
  clear HZ
  go_loopw [12] (fun i wr => ∃ (k : Nat), k ≤ n ∧ i = .int .i64 (k : Int) ∧ Hid (Bld wr g0 (textS ((pl R).take k))) ∧ Hid (Gr w wr) ∧ g0 ≤ wr.heap.size) (fun i _ => n - (intOf i).toNat)
  case atStart => exact ⟨0, Nat.zero_le _, rfl, HB0, HG0, hg2⟩
  case round =>
    obtain ⟨k, hk, rfl, HB, HG, hgs⟩ := hrel
    by_cases hlt : k < n
    · obtain ⟨b, off, x, rfl, hbl, hx, hxo, c0⟩ := (HM.out.gr HG.out).at_ hlt
      have hxl : (pl R)[k]? = some x.l := by unfold pl; rw [List.getElem?_map, hx]; rfl
      have hxf := HF.out x.l (List.mem_of_getElem? hxl)
      have hxn : x.n ≤ 64 := by rw [← hxo.1.1]; exact hxf.1
      have cp := Lib.hid (printLine_is (c := x.c) (hg.gr HG.out) hxo.1 hxf.2 hxn)
      have e1 : (pl R).take (k + 1) = (pl R).take k ++ [x.l] := by rw [List.take_add_one, hxl]; rfl
      have HT := Lib.hid (show textS ((pl R).take k) ++ lineS x.l ++ [10] = textS ((pl R).take (k + 1)) from by
        rw [e1, textS_append]
        simp [textS])
      have l1 := lineS_len x.l hxf.2
      have l2 := textS_len ((pl R).take k) (fun q hq => HF.out q (List.mem_of_mem_take hq))
      rw [List.length_take] at l2
      have k0 : (0 : Int) ≤ (k : Int) := by omega
      have k1 : (k : Int) < (n : Int) := by omega
      generalize textS ((pl R).take k) = T0 at *
      have hT1 : T0.length + (lineS x.l).length ≤ 140737488355328 := by omega
      have hT2 : (T0 ++ lineS x.l).length + 1 ≤ 140737488355328 := by rw [List.length_append]; omega
      clear l1 l2 hx hxl hxo hxf e1
      go_wp2_with fail
      with_reducible refine cp.out.mono ?_
      rintro e w2 ⟨rfl, hb2⟩
      have B2 := HB.out.gr hb2
      have s2 := hb2.size
      have cs := Lib.hid (WS_is (s := lineS x.l) B2 (by omega) hT1)
      go_wp2_with fail
      with_reducible refine cs.out.mono ?_
      rintro e w3 ⟨rfl, B3, hb3⟩
      have s3 := hb3.size
      have G3 := (HG.out.trans hb2).trans' (Below.mono hb3 hg1)
      have cb := Lib.hid (WB_is B3 (by omega) hT2)
      clear B2 HB cs cp hb2
      go_wp2_with fail
      with_reducible refine cb.out.mono ?_
      rintro e w4 ⟨rfl, B4, hb4⟩
      have s4 := hb4.size
      have G4 := Lib.hid (G3.trans' (Below.mono hb4 hg1))
      rw [HT.out] at B4
      have HB4 := Lib.hid B4
      have s5 : g0 ≤ w4.heap.size := by omega
      clear B3 cb hb3 hb4 G3 B4
      go_wp2_with fail
      go_roundw
      case rel => exact ⟨k + 1, by omega, by go_num, HB4, G4, s5⟩
      case measure => simp [intOf]; omega
    · obtain rfl : k = n := by omega
      have hT : (pl R).take k = pl R := List.take_of_length_le (by rw [HL.out]; exact Nat.le_refl _)
      have B2 := HB.out
      rw [hT] at B2
      have cs := Lib.hid (Str_is B2 hgs)
      clear hT B2
      go_wp2_with fail
      with_reducible refine cs.out.mono ?_
      rintro e w2 ⟨rfl, hb2⟩
      go_wp2_with fail
      go_ret2
      exact ⟨rfl, HG.out.trans' (Below.mono hb2 hg1)⟩
end P12
end Go.Proofs.YtocojdiapaeajaaDoor
