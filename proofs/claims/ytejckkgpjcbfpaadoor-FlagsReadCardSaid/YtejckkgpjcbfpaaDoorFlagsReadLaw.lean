/-
  Proved: deadboltlaw03.FlagsRead returns true at every input (the word of any text is as the document says, or refused). Condition: the tables of strconv and math/bits and strconv's two errors start as their texts lay them (the card ties them).
-/
import Derived.Test.YtejckkgpjcbfpaaDoorFlagsRead
import Derived.Test.YtejckkgpjcbfpaaDoorFlagsLaid
import Derived.Test.YtejckkgpjcbfpaaDoorTie
import Derived.Test.YtejckkgpjcbfpaaDoorCards
namespace Go.Proofs.YtejckkgpjcbfpaaDoor
open Go.ChangeShapes Go.WideShapes Go.ChangeAt Go.RowKit
set_option linter.unusedVariables false

/-- A byte as a digit; 0 if it is none. -/
def dig (c : UInt8) : Int := if 48 ≤ c.toNat ∧ c.toNat ≤ 57 then (c.toNat : Int) - 48 else 0
theorem dig_bounds (c : UInt8) : 0 ≤ dig c ∧ dig c ≤ 9 := by unfold dig; split <;> omega
/-- The number of the first k of a list's digits. -/
def dd (l : List UInt8) : Nat → Int
  | 0 => 0
  | k + 1 => 10 * dd l k + dig (l.getD k 0)
theorem dd_bounds (l : List UInt8) : ∀ k, 0 ≤ dd l k ∧ dd l k < 10 ^ k
  | 0 => by simp [dd]
  | k + 1 => by
    have h := dd_bounds l k
    have h2 := dig_bounds (l.getD k 0)
    have h3 : (10 : Int) ^ (k + 1) = 10 * 10 ^ k := by rw [Int.pow_succ]; omega
    rw [h3]
    show 0 ≤ 10 * dd l k + dig (l.getD k 0) ∧ 10 * dd l k + dig (l.getD k 0) < 10 * 10 ^ k
    omega
theorem dd_fold (l : List UInt8) (hl : ∀ c ∈ l, 48 ≤ c.toNat ∧ c.toNat ≤ 57) : ∀ k, k ≤ l.length → dd l k = (dfold 0 (l.take k) : Int)
  | 0, _ => by simp [dd, dfold]
  | k + 1, h => by
    have ih := dd_fold l hl k (by omega)
    have hc := hl l[k] (List.getElem_mem ..)
    have e1 : l.getD k 0 = l[k] := by rw [List.getD_eq_getElem?_getD, List.getElem?_eq_getElem (by omega)]; rfl
    have e2 : l.take (k + 1) = l.take k ++ [l[k]] := by rw [List.take_add_one, List.getElem?_eq_getElem (by omega)]; rfl
    have e3 : dfold 0 (l.take k ++ [l[k]]) = dfold 0 (l.take k) * 10 + (l[k].toNat - 48) := by unfold dfold; rw [List.foldl_append]; rfl
    show 10 * dd l k + dig (l.getD k 0) = _
    rw [e1, e2, e3, ih, dig, if_pos hc]
    omega

/-- The text's byte at a place, as a number. -/
def V (T : ByteArray) (i : Nat) : Int := ((T.data.toList.getD i 0).toNat : Int)
def D (T : ByteArray) (i : Nat) : Int := dd (T.data.toList.drop 3) (i - 3)
theorem V_at (T : ByteArray) (i : Nat) (hi : i < T.size) : V T i = (T[i].toNat : Int) := by
  unfold V
  have e : T.data.toList[i]? = some T[i] := by
    rw [List.getElem?_eq_getElem (by simpa using hi)]
    simp
    rfl
  rw [List.getD_eq_getElem?_getD, e]
  rfl
theorem V_idx (T : ByteArray) (i : Nat) (hi : i < T.size) (w : World) : (Instr.index 9 (.string T) (.int .i64 (i : Int))).run Tryd.prog w = .ok (.int .u8 (V T i)) w := by rw [V_at T i hi]; exact idx T i hi w
theorem V_bounds (T : ByteArray) (i : Nat) : 0 ≤ V T i ∧ V T i ≤ 255 := by
  unfold V
  have := (T.data.toList.getD i 0).toNat_lt
  omega
theorem D_step (T : ByteArray) (i : Nat) (h3 : 3 ≤ i) (hv : 48 ≤ V T i ∧ V T i ≤ 57) : D T (i + 1) = 10 * D T i + (V T i - 48) := by
  have e : i + 1 - 3 = (i - 3) + 1 := by omega
  unfold D
  rw [e]
  show 10 * dd (T.data.toList.drop 3) (i - 3) + dig ((T.data.toList.drop 3).getD (i - 3) 0) = _
  have e2 : (T.data.toList.drop 3).getD (i - 3) 0 = T.data.toList.getD i 0 := by
    rw [List.getD_eq_getElem?_getD, List.getD_eq_getElem?_getD, List.getElem?_drop]
    congr 2
    omega
  unfold V at hv ⊢
  rw [e2, dig, if_pos (by omega)]
theorem D_bounds (T : ByteArray) (h : T.size ≤ 12) (i : Nat) (hi : i ≤ T.size) : 0 ≤ D T i ∧ D T i < 1000000000 := by
  have h1 := dd_bounds (T.data.toList.drop 3) (i - 3)
  refine ⟨h1.1, Int.lt_of_lt_of_le h1.2 ?_⟩
  have h2 : (10 : Nat) ^ (i - 3) ≤ 10 ^ 9 := Nat.pow_le_pow_right (by decide) (by omega)
  have h3 : (((10 : Nat) ^ (i - 3) : Nat) : Int) ≤ ((10 ^ 9 : Nat) : Int) := Int.ofNat_le.2 h2
  rw [Int.natCast_pow] at h3
  exact h3
theorem D_tx (a b c : Bool) (n : Int) (hn : 0 ≤ n) : D (tx a b c n) (tx a b c n).size = n := by
  have hs := tx_size a b c n
  have hz : (dgs n).size = (Lib.decDigits n.toNat).length := by show (Lib.decDigits n.toNat).toArray.size = _; simp
  have hd : (tx a b c n).data.toList.drop 3 = Lib.decDigits n.toNat := by rw [tx_data]; rfl
  unfold D
  rw [hd, hs, hz, Nat.add_sub_cancel_left, dd_fold _ (dec_digits n.toNat) _ (Nat.le_refl _), List.take_length]
  have hv : dfold 0 (Lib.decDigits n.toNat) = n.toNat := dval_dec n.toNat
  rw [hv]
  omega
theorem V_tx (a b c : Bool) (n : Int) (i : Nat) (h3 : 3 ≤ i) (hi : i < (tx a b c n).size) : 48 ≤ V (tx a b c n) i ∧ V (tx a b c n) i ≤ 57 := by
  have hs := tx_size a b c n
  have hz : (dgs n).size = (Lib.decDigits n.toNat).length := by show (Lib.decDigits n.toNat).toArray.size = _; simp
  obtain ⟨k, rfl⟩ : ∃ k, i = k + 3 := ⟨i - 3, by omega⟩
  have e : (tx a b c n).data.toList.getD (k + 3) 0 = (Lib.decDigits n.toNat)[k]'(by omega) := by
    rw [tx_data, List.getD_eq_getElem?_getD]
    show (Lib.decDigits n.toNat)[k]?.getD 0 = _
    rw [List.getElem?_eq_getElem (by omega)]
    rfl
  have h := dec_digits n.toNat _ (List.getElem_mem (by omega : k < (Lib.decDigits n.toNat).length))
  unfold V
  rw [e]
  omega
theorem V_lb (a b c : Bool) (n : Int) : V (tx a b c n) 0 = ((lb a 76).toNat : Int) ∧ V (tx a b c n) 1 = ((lb b 87).toNat : Int) ∧ V (tx a b c n) 2 = ((lb c 83).toNat : Int) := by
  unfold V
  rw [tx_data]
  exact ⟨rfl, rfl, rfl⟩

theorem rParse_yes (a b c : Bool) (n : Int) (h : 0 ≤ n ∧ n < 268435456) (w : World) :
    Calls Tryd.prog 19 #[.string (tx a b c n)] w fun e w' => e = .returned (.tuple #[.int .i64 (pw a b c n), .bool true]) ∧ Gr w w' := by
  have hs := tx_size a b c n
  have hd := dgs_le h
  have hp := dgs_pos n
  obtain ⟨v0, v1, v2⟩ := V_lb a b c n
  have i0 := fun w => V_idx (tx a b c n) 0 (by omega) w
  have i1 := fun w => V_idx (tx a b c n) 1 (by omega) w
  have i2 := fun w => V_idx (tx a b c n) 2 (by omega) w
  refine rParse_run (X := pw a b c n) (D (tx a b c n)) (V (tx a b c n)) (by omega) (by omega) w rfl (fun i h3 _ hv => D_step _ i h3 hv) (fun i hi => D_bounds _ (by omega) i hi) (fun i _ => V_bounds _ i) (fun i hi w => V_idx _ i hi w)
    i0 i1 i2 (by rw [v0]; exact lb_is a 76 (by decide)) (by rw [v1]; exact lb_is b 87 (by decide)) (by rw [v2]; exact lb_is c 83 (by decide)) n (D_tx a b c n h.1)
    (.inr ⟨fun w => rMay_yes a b c n h w, fun w => rPack_ok a b c n h w, tx a b c n, fun w => rText_ok a b c n h w, .inr ⟨rfl, rfl, rfl⟩⟩) ?_
  rintro ⟨i, h3, hi, hn⟩
  exact absurd (V_tx a b c n i h3 hi) hn
theorem rParse_no (T : ByteArray) (hn : ∀ a b c n, 0 ≤ n ∧ n < 268435456 → T ≠ tx a b c n) (w : World) :
    Calls Tryd.prog 19 #[.string T] w fun e w' => e = .returned (.tuple #[.int .i64 0, .bool false]) ∧ Gr w w' := by
  by_cases h4 : T.size < 4
  · exact rParse_short T h4 w
  by_cases h12 : 12 < T.size
  · exact rParse_long T h12 w
  have i0 := fun w => V_idx T 0 (by omega) w
  have i1 := fun w => V_idx T 1 (by omega) w
  have i2 := fun w => V_idx T 2 (by omega) w
  by_cases hm : 0 ≤ D T T.size ∧ D T T.size < 268435456
  · exact rParse_run (D T) (V T) (by omega) (by omega) w rfl (fun i h3 _ hv => D_step _ i h3 hv) (fun i hi => D_bounds _ (by omega) i hi) (fun i _ => V_bounds _ i) (fun i hi w => V_idx _ i hi w)
      i0 i1 i2 rfl rfl rfl _ rfl
      (.inr ⟨fun w => rMay_yes _ _ _ _ hm w, fun w => rPack_ok _ _ _ _ hm w, tx _ _ _ _, fun w => rText_ok _ _ _ _ hm w, .inl ⟨toList_ne (fun e => hn _ _ _ _ hm e.symm), rfl, rfl⟩⟩) (fun _ => ⟨rfl, rfl⟩)
  · exact rParse_run (X := 0) (D T) (V T) (by omega) (by omega) w rfl (fun i h3 _ hv => D_step _ i h3 hv) (fun i hi => D_bounds _ (by omega) i hi) (fun i _ => V_bounds _ i) (fun i hi w => V_idx _ i hi w)
      i0 i1 i2 rfl rfl rfl _ rfl
      (.inl ⟨fun w => rMay_no _ _ _ _ hm w, rfl, rfl⟩) (fun _ => ⟨rfl, rfl⟩)

/-- What Parse and the document's Parse answer of a text that is short enough. -/
def ReadIs (U : ByteArray) (X Y m : Int) (s : Bool) : Prop :=
  (∀ w, Tab w → Errs w → Calls Tryd.prog 18 #[.string U] w fun e w' => e = .returned (.tuple #[.int .i64 X, .int .i64 Y]) ∧ Gr w w') ∧
  (∀ w, Calls Tryd.prog 19 #[.string U] w fun e w' => e = .returned (.tuple #[.int .i64 m, .bool s]) ∧ Gr w w') ∧
  ((X = 0 ∧ Y = 9 ∧ s = false) ∨ (X = m ∧ Y = 0 ∧ s = true))
theorem read_is (U : ByteArray) (hl : U.size ≤ 20) : ∃ X Y m s, ReadIs U X Y m s := by
  by_cases h : ∃ a b c n, (0 ≤ n ∧ n < 268435456) ∧ U = tx a b c n
  · obtain ⟨a, b, c, n, hn, rfl⟩ := h
    exact ⟨_, _, _, _, fun w ht _ => Parse_ok a b c n hn w ht, fun w => rParse_yes a b c n hn w, .inr ⟨rfl, rfl, rfl⟩⟩
  · have hn : ∀ a b c n, 0 ≤ n ∧ n < 268435456 → U ≠ tx a b c n := fun a b c n hn e => h ⟨a, b, c, n, hn, e⟩
    exact ⟨_, _, _, _, fun w ht he => Parse_no U hl hn w ht he, fun w => rParse_no U hn w, .inl ⟨rfl, rfl, rfl⟩⟩

set_option maxHeartbeats 4000000 in
set_option maxRecDepth 100000 in
theorem read_run (T U : ByteArray) (X Y m : Int) (s : Bool) (hT : T.size ≤ maxLen) (hU : T.extract 0 (min (T.size : Int) 20).toNat = U) (H : ReadIs U X Y m s) (w : World) (ht : Tab w) (he : Errs w) :
    Calls Tryd.prog 4 #[.string T] w fun e w' => e = .returned (.bool true) ∧ Gr w w' := by
  obtain ⟨kp, kr, hl⟩ := H
  have cp := fun w ht he => Lib.hid (kp w ht he)
  have cr := fun w => Lib.hid (kr w)
  clear kp kr
  have HU := Lib.hid hU
  clear hU
  go_enter Tryd.func4, Tryd.ntmps4
  go_wp2_with fail
  rw [HU.out]
  refine (cp _ ht he).out.mono ?_
  rintro e w1 ⟨rfl, hb1⟩
  go_wp2_with fail
  refine (cr _).out.mono ?_
  rintro e w2 ⟨rfl, hb2⟩
  have G := hb1.trans hb2
  clear hb1 hb2
  rcases hl with ⟨rfl, rfl, rfl⟩ | ⟨rfl, rfl, rfl⟩
  · go_wp2_with fail
    refine (alive3_ok _ (ht.gr G)).mono ?_
    rintro e w3 ⟨rfl, hb3⟩
    go_wp2_with fail
    go_ret
    exact ⟨rfl, G.trans hb3⟩
  · go_wp2_with fail
    refine (alive3_ok _ (ht.gr G)).mono ?_
    rintro e w3 ⟨rfl, hb3⟩
    go_wp2_with fail
    go_ret
    exact ⟨rfl, G.trans hb3⟩

theorem FlagsRead_walk (w : World) (ht : Tab w) (he : Errs w) (T : ByteArray) (hT : T.size ≤ maxLen) :
    Calls Tryd.prog 4 #[.string T] w fun e w' => e = .returned (.bool true) ∧ Gr w w' := by
  obtain ⟨U, hU⟩ : ∃ U, T.extract 0 (min (T.size : Int) 20).toNat = U := ⟨_, rfl⟩
  have hl : U.size ≤ 20 := by rw [← hU, ByteArray.size_extract]; omega
  obtain ⟨X, Y, m, s, H⟩ := read_is U hl
  exact read_run T U X Y m s hT hU H w ht he

set_option maxRecDepth 100000 in
theorem FlagsRead_lifted (os : Os) (started : os.Started) (H : Type) (enc : TypeId × Value → H) :
    ReturnsInHanded {} Tryd.checked os 4 .any (fun w args => (Rows.flagsReadSpec.pre enc Tryd.prog Tryd.f4 Rows.flagsReadRow.domain false w args ∧ laidMetH Tryd.prog laid5 w) ∧ sizedMet enc Tryd.prog Tryd.f4 (OpenSpec.ofChange Rows.flagsReadSpec) false w args)
      (Rows.flagsReadSpec.post enc Tryd.prog Tryd.f4 false true false false) := by
  refine returnsInHanded_of_change_and (C := Tryd.checked) (X := fun w _ => laidMetH Tryd.prog laid5 w) (fun _ _ _ hh h => laidMetH.of_heap hh h) own started (by kernel_rfl) Tryd.func4
    (ChangeSpec.witness_at (enc := enc) (C := Tryd.checked) (os := os) (X := fun w _ => laidMetH Tryd.prog laid5 w) false (laidWorld os) #[.string ⟨#[]⟩] 8 rfl (by kernel_rfl) (by kernel_rfl) (by kernel_rfl) (by kernel_rfl) (by kernel_rfl) (laidWorld_met5 os _)) ?_
  intro W base args ds gs before hval0 hW _ _ hL _
  have hval : ∀ (j : Nat) t v, Tryd.f4.params[j]? = some t → args[j]? = some v → Value.okWide Tryd.prog W .any base t v := hval0
  have hW' := hW
  obtain ⟨p, q, hA0, hV, rfl, hfz, hnd⟩ := hW
  have hA : DataW.TrodAll enc Tryd.prog W 0 (fun _ => true) true Tryd.f4.params.toList args.toList ds p := hA0
  rw [Tryd.params4] at hA hval
  have hK := hA
  obtain ⟨v0, vs0, d0, ds0, p0, q0, hargs, rfl, hp, h0, r0⟩ := trodAll_cons hA
  obtain ⟨rfl, rfl, rfl⟩ := trodAll_nil r0
  obtain rfl : args = #[v0] := by cases args; simp_all
  obtain ⟨rfl, rfl⟩ := trodVars_none hV
  obtain ⟨s0, rfl, rfl, rfl, w0⟩ := Go.ChangeMaps.open_string Tryd.underlying9 (hval 0 9 v0 rfl rfl) h0
  clear hA0 hval0
  refine (FlagsRead_walk W (tab5 hL) (errs5 hL) s0 w0).mono fun e W' ⟨he, hg⟩ => ?_
  subst he
  exact ⟨_, rfl, post_below (pa := p) (pv := []) hW' (fun _ _ _ => (trodAll_cons_mk (shut_bool Tryd.underlying4 _) trodAll_mk0))
    (fun sp hs => trodAll_stays laidOut hg sp (by kernel_rfl) hK (fun x hx => hW'.lt x (List.mem_append_left _ hx)) (fun x hx => hs x (List.mem_append_left _ hx))) (fun _ _ => rfl) rfl
    hg (ok_one (by kernel_rfl) rfl (okWide_bool_mk Tryd.underlying4 _))⟩

theorem FlagsRead_over : Rows.flagsReadRow.holds Tryd.pinned (OpenSpec.ofChange Rows.flagsReadSpec) :=
  OpenClaim.holds_of_wide 4 Tryd.f4 rfl rfl rfl rfl rfl rfl rfl ⟨rfl, rfl, rfl, rfl, rfl⟩ rfl rfl rfl rfl rfl (by kernel_rfl) Tryd.func4 (by kernel_rfl)
    (of_decide_eq_true (by kernel_rfl)) (by unfold Func.isWrapper; first | (rw [if_pos (by decide +kernel)]; kernel_rfl) | (rw [if_neg (by decide +kernel)]; exact ⟨rfl, rfl⟩))
    (fun os started H enc _ => FlagsRead_lifted os started H enc)

/-- The statement: the tied card. -/
theorem FlagsRead_card : Rows.FlagsReadCardSaid :=
  Claim7.holds_tied_plain_at .later [] [.data, .data, .data, .sentinel, .sentinel] true _ true
    FlagsRead_over (fun _ h => by cases h) (by kernel_rfl) (fun _ h => by cases h) flagsRead_row_tie rfl ⟨rfl, rfl⟩ (by kernel_rfl) rfl
    (fun f fn hf hfn => by
      obtain rfl : f = 4 := Option.some.inj ((show Tryd.prog.funcNamed "deadbolt/deadboltlaw03.FlagsRead" = some 4 by kernel_rfl).symm.trans hf) |>.symm
      obtain rfl : fn = Tryd.f4 := (Option.some.inj (Tryd.func4.symm.trans hfn)).symm
      exact ⟨by kernel_rfl, fun j t ht => by
        rw [Tryd.params4] at ht
        have hm : t ∈ [9] := by
          have := Array.mem_of_getElem? ht
          simpa using this
        have hall : ([9] : List TypeId).all (fun t => Tryd.prog.wantsStandIn t == false) = true := by kernel_rfl
        have hw := List.all_eq_true.1 hall t hm
        exact beq_iff_eq.1 hw⟩)
    (by kernel_rfl)
#print axioms FlagsRead_card
end Go.Proofs.YtejckkgpjcbfpaaDoor
