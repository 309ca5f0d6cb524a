/-
  The laws of root: cut, few, alive.
-/
import Derived.Test.YtdioecicakpfdaaRootRefD
namespace Go.Proofs.Ytdioecicakpfdaa
open Go.ChangeShapes Go.WideShapes Go.ChangeAt Go.RowKit
set_option linter.unusedVariables false
set_option linter.unusedSimpArgs false

/-- A spot whose line is cut. -/
def cutS (x : SV) : SV := ⟨x.addr, x.cnt, x.A, if 70 < x.n then 70 else x.n, x.c, x.line.take 70⟩
theorem cutS.ok {w : World} {x : SV} (h : x.ok w) : (cutS x).ok w := by
  have hl := h.len
  refine ⟨h.1, h.2.1, ?_, ?_, h.2.2.2.2⟩
  · show IMem w x.A (if 70 < x.n then 70 else x.n) (x.line.take 70)
    by_cases h70 : 70 < x.n
    · rw [if_pos h70]; exact h.2.2.1.take_ 70 (by omega)
    · rw [if_neg h70, List.take_of_length_le (by omega)]; exact h.2.2.1
  · show (if 70 < x.n then 70 else x.n) ≤ x.c
    have := h.2.2.2.1
    split <;> omega
theorem cutS.len (x : SV) : (cutS x).line.length ≤ 70 := by
  show (x.line.take 70).length ≤ 70
  rw [List.length_take]; omega
set_option maxHeartbeats 4000000 in
theorem cut_is' (a q : Int) (A : Option Addr) (n c m : Nat) (hc : n ≤ c) (hcm : c ≤ 9223372036854775807) (hm : (min (n : Int) 70).toNat = m) (w : World) :
    Calls Try.prog 7 #[.agg #[.int .i64 a, .int .i64 q, .slice A n c]] w fun e w' => e = .returned (.agg #[.int .i64 a, .int .i64 q, .slice A m c]) ∧ Gr w w' := by
  have HM := Lib.hid hm
  clear hm
  go_enter Try.func7, Try.ntmps7
  go_wp2_with fail
  rw [HM.out]
  have GF := ((Gr.refl w).al (.cells #[.int .i64 a, .int .i64 q, .slice A m c] 25)).al (.cells #[.int .i64 a, .int .i64 q, .slice A m c] 25)
  exact bodyPost_ret (v := .agg #[.int .i64 a, .int .i64 q, .slice A m c]) (by simp [results, Try.results7, go_sem]) rfl ⟨rfl, GF⟩
theorem cut_is {w : World} {x : SV} (h : x.ok w) (w' : World) :
    Calls Try.prog 7 #[.agg #[.int .i64 x.addr, .int .i64 x.cnt, .slice x.A x.n x.c]] w' fun e w'' => e = .returned (.agg #[.int .i64 (cutS x).addr, .int .i64 (cutS x).cnt, .slice (cutS x).A (cutS x).n (cutS x).c]) ∧ Gr w' w'' :=
  cut_is' x.addr x.cnt x.A x.n x.c _ h.2.2.2.1 h.2.2.2.2 (show (min (x.n : Int) 70).toNat = if 70 < x.n then 70 else x.n by split <;> omega) w'
/-- What few hands back. -/
def fewL (L : List SV) : List SV := (L.take 70).map cutS
theorem fewL_len (L : List SV) : (fewL L).length ≤ 70 := by unfold fewL; rw [List.length_map, List.length_take]; omega
section
variable {w : World} {A : Option Addr} {n c : Nat} {L : List SV}
set_option maxHeartbeats 8000000 in
theorem few_row {w0 : World} (hm0 : SMem w0 A n L) (hw : Gr w0 w) (hc : n ≤ c) (hn : n ≤ 9223372036854775807) :
    Calls Try.prog 6 #[.slice A n c] w fun e w' => ∃ B m, e = .returned (.slice B (fewL L).length m) ∧ SRow w' w.heap.size (.slice B (fewL L).length m) (fewL L).length (fewL L) ∧ Gr w w' := by
  have hm := hm0.gr hw
  have hlen := hm.1
  obtain ⟨N, hN⟩ : ∃ N, (min (n : Int) 70).toNat = N := ⟨_, rfl⟩
  have hNn : N ≤ n := by omega
  have hN70 : N ≤ 70 := by omega
  have hi : min (n : Int) 70 = (N : Int) := by omega
  have htk : L.take 70 = L.take N := by
    by_cases h : n ≤ 70
    · rw [List.take_of_length_le (by omega), List.take_of_length_le (by omega)]
    · rw [show N = 70 from by omega]
  have HM := Lib.hid hm
  have HTK := Lib.hid htk
  have HNN := Lib.hid hN
  have h0 : (0 : Int) ≤ (N : Int) := by omega
  have h1 : (N : Int) ≤ (c : Int) := by omega
  clear hm hm0 hw htk hN
  go_enter Try.func6, Try.ntmps6
  go_wp2_with fail
  go_loopw [3, 12] (fun O i wr => ∃ k : Nat, k ≤ N ∧ i = .int .i64 (k : Int) ∧ Hid (SRow wr w.heap.size O ((L.take k).map cutS).length ((L.take k).map cutS)) ∧ Hid (Gr w wr)) (fun _ i _ => N - (intOf i).toNat)
  case atStart => exact ⟨0, Nat.zero_le _, rfl, Lib.hid (World.ownsRow_nil w w.heap.size 25 3), Lib.hid (Gr.refl _)⟩
  case round =>
    obtain ⟨k, hk, rfl, HR, HG⟩ := hrel
    by_cases hlt : k < N
    · obtain ⟨b, off, x, rfl, hbl, hx, hok, d0, d1, d2⟩ := (HM.out.gr HG.out).at_ (show k < n by omega)
      have HX := Lib.hid (show (L.take (k + 1)).map cutS = (L.take k).map cutS ++ [cutS x] from by rw [take_snoc hx, List.map_append]; rfl)
      have k0 : (0 : Int) ≤ (k : Int) := by omega
      have k1 : (k : Int) < (N : Int) := by omega
      have g1 := (Gr.refl wr).al (.cells #[.int .i64 x.addr, .int .i64 x.cnt, .slice x.A x.n x.c] 25)
      have CC := Lib.hid (cut_is hok (wr.alloc (.cells #[.int .i64 x.addr, .int .i64 x.cnt, .slice x.A x.n x.c] 25)))
      have HG1 := Lib.hid g1
      have hl : ((L.take k).map cutS).length ≤ 1000000 := by rw [List.length_map, List.length_take]; omega
      clear hx hok g1
      obtain ⟨y, hy⟩ : ∃ y, cutS x = y := ⟨_, rfl⟩
      rw [hy] at CC HX
      clear hy
      go_wp2_with fail
      with_reducible refine CC.out.mono ?_
      rintro e w2 ⟨rfl, h2⟩
      have g3 := Lib.hid ((HG1.out.trans h2).al (.cells #[.int .i64 y.addr, .int .i64 y.cnt, .slice y.A y.n y.c] 25))
      have HR2 := Lib.hid (srow_gr HR.out g3.out)
      have hws := ((HG.out.trans HG1.out).trans h2).size
      clear CC h2 d0 d1 d2
      go_wp2_with (at_builtin; refine Mark.stop ?_)
      refine Mark.go ?_
      refine wpList_append_spot (y := y) rfl (.tmp 16) (.tmp 19) rfl rfl rfl HR2.out (Blk.new w2 _ _) hl (by simp; omega) ?_
      intro g cap w3 hA
      have HG3 := Lib.hid (hA.gr HR2.out (HG.out.trans g3.out) (Nat.le_refl _))
      have HR3 := Lib.hid hA.row
      rw [← HX.out, show ((L.take k).map cutS).length = min k n from by rw [List.length_map, List.length_take, hlen]] at HR3
      clear hA HR2
      go_wp2_with fail
      go_roundw
      case rel => exact ⟨k + 1, by omega, by go_num, HR3, HG3⟩
      case measure => simp [intOf]; omega
    · obtain rfl : k = N := by omega
      have hR := HR.out
      rw [← HTK.out] at hR
      obtain ⟨B, m, rfl, hmem, hle, hmx⟩ := own_smem hR (fun y hy => by
        obtain ⟨x, hx, rfl⟩ := List.mem_map.1 hy
        exact (cutS.ok (HM.out.2.1 x (List.mem_of_mem_take hx))).gr HG.out)
      have HRR := Lib.hid hR
      clear hR HR hmem hle hmx
      go_wp2_with fail
      go_ret
      exact ⟨B, m, rfl, HRR.out, HG.out⟩
theorem fewL_ok {w0 : World} (hm0 : SMem w0 A n L) : ∀ x ∈ fewL L, x.ok w0 := fun y hy => by
  obtain ⟨x, hx, rfl⟩ := List.mem_map.1 hy
  exact cutS.ok (hm0.2.1 x (List.mem_of_mem_take hx))
theorem few_is (hm : SMem w A n L) (hc : n ≤ c) (hn : n ≤ 9223372036854775807) :
    Calls Try.prog 6 #[.slice A n c] w fun e w' => ∃ B m, e = .returned (.slice B (fewL L).length m) ∧ SMem w' B (fewL L).length (fewL L) ∧ (fewL L).length ≤ m ∧ m ≤ 9223372036854775807 ∧ Gr w w' := by
  refine (few_row hm (Gr.refl w) hc hn).mono ?_
  rintro e w' ⟨B, m, rfl, hr, hg⟩
  obtain ⟨B', m', e, h1, h2, h3⟩ := own_smem hr (fun y hy => (fewL_ok hm y hy).gr hg)
  cases e
  exact ⟨B, m, rfl, h1, h2, h3, hg⟩
end
theorem grownBy_cell (W : World) (b o : Nat) (v : Value) : W.grownBy (W.setCell ⟨b, o, none⟩ v) (some b) :=
  ⟨rfl, rfl, rfl, by simp [World.setCell], fun k _ hk => Below.heap_setCell _ _ _ k (fun e => hk (by rw [e]))⟩
theorem srow_cell {W : World} {base n : Nat} {v : Value} {l : List SV} (h : SRow W base v n l) {b o : Nat} (hb : b < base) (u : Value) : SRow (W.setCell ⟨b, o, none⟩ u) base v n l :=
  h.kept (grownBy_cell W b o u) (by
    cases h0 : v.ownBlock with
    | none => exact .inl rfl
    | some g =>
      right
      intro e
      cases e
      rcases h.2 with ⟨rfl, _⟩ | ⟨g', c', cur, rfl, hb', _⟩
      · cases h0
      · simp only [Value.ownBlock] at h0
        cases h0
        omega)
theorem srow_gr2 {W W' : World} {base n : Nat} {v : Value} {l : List SV} (h : SRow W base v n l) (hg : Gr W W') : SRow W' base v n l :=
  h.kept (row := none) ⟨hg.os, hg.tape, hg.output, hg.size, fun k hk _ => hg.block k hk⟩ (by
    cases h0 : v.ownBlock with
    | none => exact .inl rfl
    | some g => exact .inr (by simp))
/-- A spot is put into a variable. -/
theorem spot_stored {W : World} {b : Nat} {vs : Array Value} {t : TypeId} (h : Blk W b vs t) (h3 : vs.size = 3) (x y z : Value) :
    Blk (((W.setCell ⟨b, 0, none⟩ x).setCell ⟨b, 1, none⟩ y).setCell ⟨b, 2, none⟩ z) b #[x, y, z] t := by
  have h2 := ((h.set 0 x).set 1 y).set 2 z
  have e : ((vs.setIfInBounds 0 x).setIfInBounds 1 y).setIfInBounds 2 z = #[x, y, z] := by
    match vs, h3 with
    | ⟨[p, q, r]⟩, _ => rfl
  rw [e] at h2
  exact h2
theorem rt2008 : rt 2008 = 0 := by unfold rt; decide
set_option maxHeartbeats 4000000 in
theorem alive_ok (w : World) : Calls Try.prog 15 #[] w fun e w' => e = .returned (.bool true) ∧ Gr w w' := by
  have hk : IsKey 2008 := ⟨by decide, by decide⟩
  have hso : SOk ⟨2008, 3, none, 0, 0, []⟩ := ⟨hk, (by decide : (0 : Int) ≤ 3), (by decide : (3 : Int) ≤ 2147483647), L7.Ln.nil, .inr rfl⟩
  have hset : setl [] ⟨2008, 3, none, 0, 0, []⟩ = [⟨2008, 3, none, 0, 0, []⟩] := by
    have h : ¬ SNil ⟨2008, 3, none, 0, 0, []⟩ := fun h => absurd h.1 (by decide)
    unfold setl front back
    rw [if_neg h]
    rfl
  have CS := Lib.hid (Set_is (w := w) (A := none) (n := 0) (c := 0) (L := []) (s := ⟨2008, 3, none, 0, 0, []⟩) SMem.nil_ (Nat.le_refl _) (Nat.zero_le _) ⟨⟨by decide, by decide⟩, ⟨by decide, by decide⟩, EMem.nil_, Nat.le_refl _, Nat.zero_le _⟩
    (R := [(2008, 3, [])]) (e := 0) (.inr ⟨hso, Tab.nil, .inr ⟨by rw [hset]; decide, by rw [hset]; rfl, rfl⟩⟩))
  have CR := Lib.hid (fun W => Root_is 2008 W)
  rw [rf_key hk, re_key hk, rt2008] at CR
  clear hso hset
  go_enter Try.func15, Try.ntmps15
  go_wp2_with fail
  with_reducible refine CS.out.mono ?_
  rintro e w1 ⟨B, m, T, rfl, hmem, hle, hmx, hpl, hb1⟩
  obtain ⟨y, hy, hyc⟩ : ∃ y, T = [y] ∧ y.cnt = 3 := by
    cases T with
    | nil => simp at hpl
    | cons y r =>
      cases r with
      | nil => exact ⟨y, rfl, by simp [SV.pl] at hpl; exact hpl.2.1⟩
      | cons z r => simp at hpl
  subst hy
  obtain ⟨b, off, x, rfl, hbl, hx, hok, d0, d1, d2⟩ := hmem.at_ (k := 0) (by simp)
  simp at hx
  subst hx
  rw [hyc] at d1
  simp only [Nat.zero_mul, Nat.add_zero] at d0 d1 d2
  have HG := Lib.hid hb1
  clear hmem hle hmx hpl hyc hb1 hok CS
  go_wp2_with fail
  with_reducible refine (CR.out _).mono ?_
  rintro e w2 ⟨rfl, rfl⟩
  go_wp2_with fail
  go_ret
  exact ⟨rfl, HG.out⟩
end Go.Proofs.Ytdioecicakpfdaa
