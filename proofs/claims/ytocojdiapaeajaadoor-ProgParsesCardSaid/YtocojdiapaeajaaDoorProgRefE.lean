/-
  deadboltref12: the pieces of a line; the lines of a text.
-/
import Derived.Test.YtocojdiapaeajaaDoorProgRefC
namespace Go.Proofs.YtocojdiapaeajaaDoor
open Go.ChangeShapes Go.WideShapes Go.ChangeAt Go.RowKit
set_option linter.unusedVariables false
set_option linter.unusedSimpArgs false
set_option maxRecDepth 100000
namespace P12

/-! Rows of strings of the call's own. -/
abbrev TOwn (w : World) (base : Nat) (A : Option Addr) (n c : Nat) (L : List Bs) : Prop := OMem (fun l : Bs => Value.string (bs l)) (fun l => l.length < 4294967281) base w A n c L
section
variable {w w' : World} {base : Nat} {A : Option Addr} {n c : Nat} {L : List Bs}
theorem TOwn.late (h : TOwn w base A n c L) {k : Nat} (hk : A.map (·.block) = some k) : base ≤ k := by
  rcases h.2.2.2 with ⟨rfl, _⟩ | ⟨b, off, rfl, h5, h6, _⟩
  · cases hk
  · cases hk
    exact h5
theorem town_empty (w : World) : TOwn (w.alloc (.cells #[] 9)) w.heap.size (some ⟨w.heap.size, 0, none⟩) 0 0 [] :=
  ⟨EMem.nil_, Nat.le_refl _, Nat.zero_le _, .inr ⟨_, 0, rfl, Nat.le_refl _, by simp, fun j hj => absurd hj (by omega)⟩⟩
theorem tmem_one (w : World) {s : Bs} (hs : s.length < 4294967281) : StrMem (w.alloc (.cells #[.string (bs s)] 9)) (some ⟨w.heap.size, 0, none⟩) 1 [s] :=
  ⟨rfl, fun y hy => by simp at hy; subst hy; exact hs, fun _ => ⟨_, 0, rfl, by simp, fun j u hu => by
    match j, hu with
    | 0, hu => simp at hu; subst hu; simp⟩⟩
theorem wpList_append_str {ops : Array Oper} {rest : List Oper} {o : Oper} {a : Act} {Q : Exit → Act → World → Prop} (hgd : o.guard = none) (s x : Operand)
    (ho : o.op = .call { callee := .builtin .append, args := #[s, x], argTypes := #[47, 47] }) {t : Bs} {B : Option Addr} {d : Nat}
    (hs : a.eval s = .slice A n c) (hx : a.eval x = .slice B 1 d) (h : TOwn w base A n c L) (hr : StrMem w B 1 [t]) (hn : n ≤ 1000000) (hbase : base ≤ w.heap.size)
    (hK : ∀ A' c' w', TOwn w' base A' (n + 1) c' (L ++ [t]) → w.grownBy w' (A.map (·.block)) → wpList Tryd.prog ops Q rest (a.put o.dst (.slice A' (n + 1) c')) w') : wpList Tryd.prog ops Q (o :: rest) a w := by
  obtain ⟨i, hi, hz, hsz, hb⟩ := info_parts infoStr
  exact wpList_append_omem2 (P := Tryd.prog) (w := w) (fun l : Bs => Value.string (bs l)) (fun l => l.length < 4294967281) hgd s x 47 ho (fun _ => rfl) base 9 i (.string ⟨#[]⟩) 16 Tryd.underlying47 hi hz hsz hb rfl
    A n c L hs h B 1 d [t] hx hr (by unfold maxLen; omega) (by omega) hbase (fun A' c' w' h1 h2 _ => hK A' c' w' h1 h2)
end

/-! The pieces. -/
theorem spl_end {cur r : Bs} (h : r.length ≤ 1) : spl cur r = [cur ++ r] := by
  match r, h with
  | [], _ => simp [spl]
  | [x], _ => simp [spl]
theorem drop_two {s : Bs} {i : Nat} {x y : UInt8} (hx : s[i]? = some x) (hy : s[i + 1]? = some y) : s.drop i = x :: y :: s.drop (i + 2) := by
  obtain ⟨h1, rfl⟩ := List.getElem?_eq_some_iff.1 hx
  obtain ⟨h2, rfl⟩ := List.getElem?_eq_some_iff.1 hy
  rw [List.drop_eq_getElem_cons h1, List.drop_eq_getElem_cons h2]
theorem mid_more {s : Bs} {f i : Nat} {x : UInt8} (hf : f ≤ i) (hx : s[i]? = some x) : (s.drop f).take (i - f) ++ [x] = (s.drop f).take (i + 1 - f) := by
  have h1 : (s.drop f)[i - f]? = some x := by rw [List.getElem?_drop, show f + (i - f) = i by omega]; exact hx
  rw [show i + 1 - f = (i - f) + 1 by omega, List.take_add_one, h1]
  rfl
theorem mid_end {s : Bs} {f i : Nat} (hf : f ≤ i) (hi : i ≤ s.length) : (s.drop f).take (i - f) ++ s.drop i = s.drop f := by
  conv => rhs; rw [← List.take_append_drop (i - f) (s.drop f)]
  rw [List.drop_drop, show f + (i - f) = i by omega]
theorem byte_is (z : UInt8) (m : Nat) (hm : m < 256) : ((z.toNat : Int) == (m : Int)) = decide (z = UInt8.ofNat m) := by
  by_cases h : z = UInt8.ofNat m
  · subst h
    rw [decide_eq_true rfl]
    simp [UInt8.toNat_ofNat', Nat.mod_eq_of_lt hm]
  · rw [decide_eq_false h]
    simp only [beq_eq_false_iff_ne, ne_eq, Int.natCast_inj]
    intro e
    apply h
    rw [← e]
    simp
/-- How far the pieces are cut. -/
def SplAt (s : Bs) (L : List Bs) (f i : Nat) : Prop := f ≤ i ∧ i ≤ s.length ∧ spl [] s = L ++ spl ((s.drop f).take (i - f)) (s.drop i)
theorem SplAt.start (s : Bs) : SplAt s [] 0 0 := ⟨Nat.le_refl _, Nat.zero_le _, by simp⟩
theorem SplAt.cut {s : Bs} {L : List Bs} {f i : Nat} (h : SplAt s L f i) (hx : s[i]? = some 59) (hy : s[i + 1]? = some 32) : SplAt s (L ++ [(s.drop f).take (i - f)]) (i + 2) (i + 2) := by
  obtain ⟨h1, h2, h3⟩ := h
  have hl := (List.getElem?_eq_some_iff.1 hy).1
  refine ⟨Nat.le_refl _, by omega, ?_⟩
  rw [h3, drop_two hx hy, spl, if_pos ⟨rfl, rfl⟩, Nat.sub_self, List.take_zero]
  simp
theorem SplAt.more {s : Bs} {L : List Bs} {f i : Nat} (h : SplAt s L f i) {x y : UInt8} (hx : s[i]? = some x) (hy : s[i + 1]? = some y) (hn : ¬ (x = 59 ∧ y = 32)) : SplAt s L f (i + 1) := by
  obtain ⟨h1, h2, h3⟩ := h
  have hl := (List.getElem?_eq_some_iff.1 hy).1
  refine ⟨by omega, by omega, ?_⟩
  rw [h3, drop_two hx hy, spl, if_neg hn, mid_more h1 hx, List.drop_eq_getElem_cons hl]
  have : s[i + 1] = y := (List.getElem?_eq_some_iff.1 hy).2
  rw [this]
theorem SplAt.fin {s : Bs} {L : List Bs} {f i : Nat} (h : SplAt s L f i) (he : s.length ≤ i + 1) : spl [] s = L ++ [s.drop f] := by
  obtain ⟨h1, h2, h3⟩ := h
  rw [h3, spl_end (by rw [List.length_drop]; omega), mid_end h1 h2]

set_option maxHeartbeats 8000000 in
theorem rpieces_is {s : Bs} (hs : s.length ≤ 100000) (w : World) :
    Calls Tryd.prog 39 #[.string (bs s)] w fun e w' => (∃ A c, e = .returned (.slice A (spl [] s).length c) ∧ StrMem w' A (spl [] s).length (spl [] s) ∧ Late w.heap.size A) ∧ Gr w w' := by
  have hsz := bs_size s
  have byt := fun k c h => byte_run s k c h
  obtain ⟨SS, hSS⟩ : ∃ SS, bs s = SS := ⟨_, rfl⟩
  rw [hSS] at hsz ⊢
  rw [hSS] at byt
  have HSS := Lib.hid hSS
  have BYT := Lib.hid byt
  have H0 := Lib.hid (SplAt.start s)
  have HO0 := Lib.hid (town_empty w)
  have HG0 := Lib.hid ((Gr.refl w).al (.cells #[] 9))
  clear hSS byt
  go_enter Tryd.func39, Tryd.ntmps39
  go_wp2_with fail
  go_loopw [3, 4, 5] (fun o f i wr => ∃ (k j n c : Nat) (B : Option Addr) (L : List Bs), i = .int .i64 (j : Int) ∧ f = .int .i64 (k : Int) ∧ o = .slice B n c ∧ k ≤ j ∧ j ≤ s.length ∧ n ≤ j ∧ Hid (SplAt s L k j) ∧ Hid (TOwn wr w.heap.size B n c L) ∧ Hid (Gr w wr)) (fun _ _ i _ => s.length - (intOf i).toNat)
  case atStart => exact ⟨0, 0, 0, 0, _, [], rfl, rfl, rfl, Nat.le_refl _, Nat.zero_le _, Nat.le_refl _, H0, HO0, HG0⟩
  case round =>
    obtain ⟨k, j, n, c, B, L, rfl, rfl, rfl, hkj, hjs, hnj, HA, HO, HG⟩ := hrel
    obtain ⟨j2, hj2⟩ : ∃ j2, j + 1 = j2 := ⟨_, rfl⟩
    obtain ⟨j3, hj3⟩ : ∃ j3, j + 2 = j3 := ⟨_, rfl⟩
    have w1 : IntKind.i64.wrap ((j : Int) + 1) = (j2 : Int) := by rw [IntKind.wrap_i64]; omega
    have w2 : IntKind.i64.wrap ((j : Int) + 2) = (j3 : Int) := by rw [IntKind.wrap_i64]; omega
    have w3 : IntKind.i64.wrap ((j2 : Int) + 1) = (j3 : Int) := by rw [IntKind.wrap_i64]; omega
    have j20 : (0 : Int) ≤ (j2 : Int) := by omega
    have k0 : (0 : Int) ≤ (k : Int) := by omega
    have j0 : (0 : Int) ≤ (j : Int) := by omega
    by_cases hlt : j + 1 < s.length
    · have t0 : (j2 : Int) < (s.length : Int) := by omega
      obtain ⟨x, hx⟩ : ∃ x, s[j]? = some x := ⟨_, List.getElem?_eq_getElem (by omega)⟩
      obtain ⟨y, hy⟩ : ∃ y, s[j + 1]? = some y := ⟨_, List.getElem?_eq_getElem hlt⟩
      have bx := BYT.out j x hx
      have by' := BYT.out j2 y (by rw [← hj2]; exact hy)
      have k1 : (k : Int) ≤ (j : Int) := by omega
      have j1 : (j : Int) ≤ (s.length : Int) := by omega
      have ex := byte_is x 59 (by omega)
      have ey := byte_is y 32 (by omega)
      have HX := Lib.hid hx
      have HY := Lib.hid hy
      obtain ⟨X, hX⟩ : ∃ X : Int, (x.toNat : Int) = X := ⟨_, rfl⟩
      obtain ⟨Y, hY⟩ : ∃ Y : Int, (y.toNat : Int) = Y := ⟨_, rfl⟩
      rw [hX] at bx ex
      rw [hY] at by' ey
      clear hx hy hX hY
      by_cases hc : x = 59 ∧ y = 32
      · obtain ⟨rfl, rfl⟩ := hc
        have tX : (X == 59) = true := ex.trans (decide_eq_true rfl)
        have tY : (Y == 32) = true := ey.trans (decide_eq_true rfl)
        have hcut := HA.out.cut HX.out HY.out
        obtain ⟨M1, hM1⟩ : ∃ M1, (s.drop k).take (j - k) = M1 := ⟨_, rfl⟩
        rw [hM1, hj3] at hcut
        have HA2 := Lib.hid hcut
        have hex : SS.extract k j = bs M1 := by rw [← hM1, ← HSS.out, bs_cut]
        have hml : M1.length < 4294967281 := by rw [← hM1, List.length_take, List.length_drop]; omega
        have g1 := (Gr.refl wr).al (.cells #[.string (bs M1)] 9)
        have HO1 := Lib.hid (HO.out.gr g1)
        have HS1 := Lib.hid (tmem_one wr hml)
        have HG1 := Lib.hid (HG.out.trans g1)
        clear ex ey hcut hM1 hml g1 HX HY HA
        have JJ := Lib.hid hj2
        have JK := Lib.hid hj3
        clear hj2 hj3
        go_wp2_with (at_builtin; refine Mark.stop ?_)
        refine Mark.go ?_
        refine wpList_append_str rfl (.tmp 23) (.tmp 28) rfl rfl rfl HO1.out HS1.out (by omega) HG1.out.size ?_
        intro A' c' w5 o5 gb5
        have HO5 := Lib.hid o5
        have HG5 := Lib.hid (HG1.out.gb gb5 (fun q hq => TOwn.late HO1.out hq))
        clear o5 gb5 HO1 HS1 HG1
        go_wp2_with fail
        go_roundw
        case rel =>
          have := JJ.out
          have := JK.out
          exact ⟨j3, j3, n + 1, c', A', L ++ [M1], by first | rfl | go_num, by first | rfl | go_num, rfl, Nat.le_refl _, by omega, by omega, HA2, HO5, HG5⟩
        case measure => have := JJ.out; have := JK.out; simp [intOf]; omega
      · have HA2 := Lib.hid (HA.out.more HX.out HY.out hc)
        rw [hj2] at HA2
        by_cases hx9 : x = 59
        · have tX : (X == 59) = true := ex.trans (decide_eq_true hx9)
          have tY : (Y == 32) = false := ey.trans (decide_eq_false fun e => hc ⟨hx9, e⟩)
          clear ex ey HX HY HA hc hx9
          have JJ := Lib.hid hj2
          have JK := Lib.hid hj3
          clear hj2 hj3
          go_wp2_with fail
          go_roundw
          case rel =>
            have := JJ.out
            exact ⟨k, j2, n, c, B, L, by first | rfl | go_num, rfl, rfl, by omega, by omega, by omega, HA2, HO, HG⟩
          case measure => have := JJ.out; have := JK.out; simp [intOf]; omega
        · have tX : (X == 59) = false := ex.trans (decide_eq_false hx9)
          clear ex ey HX HY HA hc hx9
          have JJ := Lib.hid hj2
          have JK := Lib.hid hj3
          clear hj2 hj3
          go_wp2_with fail
          go_roundw
          case rel =>
            have := JJ.out
            exact ⟨k, j2, n, c, B, L, by first | rfl | go_num, rfl, rfl, by omega, by omega, by omega, HA2, HO, HG⟩
          case measure => have := JJ.out; have := JK.out; simp [intOf]; omega
    · have t0 : ¬ (j2 : Int) < (s.length : Int) := by omega
      have hfin := HA.out.fin (by omega)
      obtain ⟨M1, hM1⟩ : ∃ M1, s.drop k = M1 := ⟨_, rfl⟩
      rw [hM1] at hfin
      have hex : SS.extract k s.length = bs M1 := by
        rw [← hM1, ← HSS.out, bs_cut, List.take_of_length_le (by rw [List.length_drop]; omega)]
      have hml : M1.length < 4294967281 := by rw [← hM1, List.length_drop]; omega
      have k1 : (k : Int) ≤ (s.length : Int) := by omega
      have hLn : L.length = n := HO.out.1.1
      have g1 := (Gr.refl wr).al (.cells #[.string (bs M1)] 9)
      have HO1 := Lib.hid (HO.out.gr g1)
      have HS1 := Lib.hid (tmem_one wr hml)
      have HG1 := Lib.hid (HG.out.trans g1)
      have HF := Lib.hid hfin
      have HLN := Lib.hid hLn
      clear hfin hM1 hml g1 HA hLn hj2 hj3
      go_wp2_with (at_builtin; refine Mark.stop ?_)
      refine Mark.go ?_
      refine wpList_append_str rfl (.tmp 36) (.tmp 40) rfl rfl rfl HO1.out HS1.out (by omega) HG1.out.size ?_
      intro A' c' w5 o5 gb5
      have HO5 := Lib.hid o5.mem
      have HL5 := Lib.hid (show Late w.heap.size A' from fun q hq => TOwn.late o5 hq)
      have HG5 := Lib.hid (HG1.out.gb gb5 (fun q hq => TOwn.late HO1.out hq))
      clear o5 gb5 HO1 HS1 HG1
      go_wp2_with fail
      go_ret
      have hlen : (spl [] s).length = n + 1 := by rw [HF.out, List.length_append, HLN.out]; rfl
      exact ⟨⟨A', c', by rw [hlen]; rfl, by rw [hlen, HF.out]; exact HO5.out, HL5.out⟩, HG5.out⟩

/-! The lines. -/
/-- A row of strings in late blocks. -/
def GotS (B : Nat) (w : World) (A : Option Addr) (L : List Bs) : Prop := StrMem w A L.length L ∧ Late B A
theorem lns_len : ∀ (s cur : Bs), ∀ x ∈ lns cur s, x.length ≤ cur.length + s.length
  | [], cur, x, h => by
    rw [lns] at h
    split at h
    · cases h
    · rw [List.mem_singleton] at h; subst h; simp
  | y :: r, cur, x, h => by
    rw [lns] at h
    split at h
    · rcases List.mem_cons.1 h with rfl | h
      · simp
      · have := lns_len r [] x h
        simp at this ⊢
        omega
    · have := lns_len r (cur ++ [y]) x h
      simp at this ⊢
      omega
/-- How far the lines are cut. -/
def LnsAt (s : Bs) (L : List Bs) (f i : Nat) : Prop := f ≤ i ∧ i ≤ s.length ∧ lns [] s = L ++ lns ((s.drop f).take (i - f)) (s.drop i)
theorem LnsAt.start (s : Bs) : LnsAt s [] 0 0 := ⟨Nat.le_refl _, Nat.zero_le _, by simp⟩
theorem LnsAt.cut {s : Bs} {L : List Bs} {f i : Nat} (h : LnsAt s L f i) (hx : s[i]? = some 10) : LnsAt s (L ++ [(s.drop f).take (i - f)]) (i + 1) (i + 1) := by
  obtain ⟨h1, h2, h3⟩ := h
  obtain ⟨hl, he⟩ := List.getElem?_eq_some_iff.1 hx
  refine ⟨Nat.le_refl _, by omega, ?_⟩
  rw [h3, List.drop_eq_getElem_cons hl, he, lns, if_pos rfl, Nat.sub_self, List.take_zero]
  simp
theorem LnsAt.more {s : Bs} {L : List Bs} {f i : Nat} (h : LnsAt s L f i) {x : UInt8} (hx : s[i]? = some x) (hn : x ≠ 10) : LnsAt s L f (i + 1) := by
  obtain ⟨h1, h2, h3⟩ := h
  obtain ⟨hl, he⟩ := List.getElem?_eq_some_iff.1 hx
  refine ⟨by omega, by omega, ?_⟩
  rw [h3, List.drop_eq_getElem_cons hl, he, lns, if_neg hn, mid_more h1 hx]
theorem LnsAt.fin {s : Bs} {L : List Bs} {f : Nat} (h : LnsAt s L f s.length) : (f < s.length → lns [] s = L ++ [s.drop f]) ∧ (¬ f < s.length → lns [] s = L) := by
  obtain ⟨h1, _, h3⟩ := h
  have e : (s.drop f).take (s.length - f) = s.drop f := List.take_of_length_le (by rw [List.length_drop]; omega)
  rw [List.drop_length, e, lns] at h3
  refine ⟨fun hf => ?_, fun hf => ?_⟩
  · rw [h3, if_neg (fun h0 => by
      have := congrArg List.length h0
      rw [List.length_drop] at this
      simp at this
      omega)]
  · rw [h3, if_pos (List.drop_of_length_le (by omega)), List.append_nil]

set_option maxHeartbeats 8000000 in
theorem rlines_is {s : Bs} (hs : s.length ≤ 100000) (w : World) :
    Calls Tryd.prog 23 #[.string (bs s)] w fun e w' => (∃ A c, e = .returned (.slice A (lns [] s).length c) ∧ GotS w.heap.size w' A (lns [] s)) ∧ Gr w w' := by
  have hsz := bs_size s
  have byt := fun k c h => byte_run s k c h
  obtain ⟨SS, hSS⟩ : ∃ SS, bs s = SS := ⟨_, rfl⟩
  rw [hSS] at hsz ⊢
  rw [hSS] at byt
  have HSS := Lib.hid hSS
  have BYT := Lib.hid byt
  have H0 := Lib.hid (LnsAt.start s)
  have HO0 := Lib.hid (town_empty w)
  have HG0 := Lib.hid ((Gr.refl w).al (.cells #[] 9))
  clear hSS byt
  go_enter Tryd.func23, Tryd.ntmps23
  go_wp2_with fail
  go_loopw [3, 4, 5] (fun o f i wr => ∃ (k j n c : Nat) (B : Option Addr) (L : List Bs), i = .int .i64 (j : Int) ∧ f = .int .i64 (k : Int) ∧ o = .slice B n c ∧ k ≤ j ∧ j ≤ s.length ∧ n ≤ j ∧ Hid (LnsAt s L k j) ∧ Hid (TOwn wr w.heap.size B n c L) ∧ Hid (Gr w wr)) (fun _ _ i _ => s.length - (intOf i).toNat)
  case atStart => exact ⟨0, 0, 0, 0, _, [], rfl, rfl, rfl, Nat.le_refl _, Nat.zero_le _, Nat.le_refl _, H0, HO0, HG0⟩
  case round =>
    obtain ⟨k, j, n, c, B, L, rfl, rfl, rfl, hkj, hjs, hnj, HA, HO, HG⟩ := hrel
    obtain ⟨j2, hj2⟩ : ∃ j2, j + 1 = j2 := ⟨_, rfl⟩
    have w1 : IntKind.i64.wrap ((j : Int) + 1) = (j2 : Int) := by rw [IntKind.wrap_i64]; omega
    have k0 : (0 : Int) ≤ (k : Int) := by omega
    have j0 : (0 : Int) ≤ (j : Int) := by omega
    by_cases hlt : j < s.length
    · have t0 : (j : Int) < (s.length : Int) := by omega
      obtain ⟨x, hx⟩ : ∃ x, s[j]? = some x := ⟨_, List.getElem?_eq_getElem (by omega)⟩
      have bx := BYT.out j x hx
      have k1 : (k : Int) ≤ (j : Int) := by omega
      have j1 : (j : Int) ≤ (s.length : Int) := by omega
      have ex := byte_is x 10 (by omega)
      have HX := Lib.hid hx
      obtain ⟨X, hX⟩ : ∃ X : Int, (x.toNat : Int) = X := ⟨_, rfl⟩
      rw [hX] at bx ex
      clear hx hX
      by_cases hc : x = 10
      · subst hc
        have tX : (X == 10) = true := ex.trans (decide_eq_true rfl)
        have hcut := HA.out.cut HX.out
        obtain ⟨M1, hM1⟩ : ∃ M1, (s.drop k).take (j - k) = M1 := ⟨_, rfl⟩
        rw [hM1, hj2] at hcut
        have HA2 := Lib.hid hcut
        have hex : SS.extract k j = bs M1 := by rw [← hM1, ← HSS.out, bs_cut]
        have hml : M1.length < 4294967281 := by rw [← hM1, List.length_take, List.length_drop]; omega
        have g1 := (Gr.refl wr).al (.cells #[.string (bs M1)] 9)
        have HO1 := Lib.hid (HO.out.gr g1)
        have HS1 := Lib.hid (tmem_one wr hml)
        have HG1 := Lib.hid (HG.out.trans g1)
        have JJ := Lib.hid hj2
        clear ex hcut hM1 hml g1 HX HA hj2
        go_wp2_with (at_builtin; refine Mark.stop ?_)
        refine Mark.go ?_
        refine wpList_append_str rfl (.tmp 17) (.tmp 22) rfl rfl rfl HO1.out HS1.out (by omega) HG1.out.size ?_
        intro A' c' w5 o5 gb5
        have HO5 := Lib.hid o5
        have HG5 := Lib.hid (HG1.out.gb gb5 (fun q hq => TOwn.late HO1.out hq))
        clear o5 gb5 HO1 HS1 HG1
        go_wp2_with fail
        go_roundw
        case rel =>
          have := JJ.out
          exact ⟨j2, j2, n + 1, c', A', L ++ [M1], by first | rfl | go_num, by first | rfl | go_num, rfl, Nat.le_refl _, by omega, by omega, HA2, HO5, HG5⟩
        case measure => have := JJ.out; simp [intOf]; omega
      · have HA2 := Lib.hid (HA.out.more HX.out hc)
        rw [hj2] at HA2
        have tX : (X == 10) = false := ex.trans (decide_eq_false hc)
        have JJ := Lib.hid hj2
        clear ex HX HA hc hj2
        go_wp2_with fail
        go_roundw
        case rel =>
          have := JJ.out
          exact ⟨k, j2, n, c, B, L, by first | rfl | go_num, rfl, rfl, by omega, by omega, by omega, HA2, HO, HG⟩
        case measure => have := JJ.out; simp [intOf]; omega
    · obtain rfl : j = s.length := by omega
      have t0 : ¬ (s.length : Int) < (s.length : Int) := by omega
      obtain ⟨hf1, hf2⟩ := HA.out.fin
      have hLn : L.length = n := HO.out.1.1
      have HLN := Lib.hid hLn
      clear hj2 w1 HA
      by_cases hk : k < s.length
      · have hfin := hf1 hk
        obtain ⟨M1, hM1⟩ : ∃ M1, s.drop k = M1 := ⟨_, rfl⟩
        rw [hM1] at hfin
        have hex : SS.extract k s.length = bs M1 := by
          rw [← hM1, ← HSS.out, bs_cut, List.take_of_length_le (by rw [List.length_drop]; omega)]
        have hml : M1.length < 4294967281 := by rw [← hM1, List.length_drop]; omega
        have k1 : (k : Int) ≤ (s.length : Int) := by omega
        have k2 : (k : Int) < (s.length : Int) := by omega
        have g1 := (Gr.refl wr).al (.cells #[.string (bs M1)] 9)
        have HO1 := Lib.hid (HO.out.gr g1)
        have HS1 := Lib.hid (tmem_one wr hml)
        have HG1 := Lib.hid (HG.out.trans g1)
        have HF := Lib.hid hfin
        clear hfin hM1 hml g1 hLn hf1 hf2 hk
        go_wp2_with (at_builtin; refine Mark.stop ?_)
        refine Mark.go ?_
        refine wpList_append_str rfl (.tmp 30) (.tmp 34) rfl rfl rfl HO1.out HS1.out (by omega) HG1.out.size ?_
        intro A' c' w5 o5 gb5
        have HO5 := Lib.hid o5.mem
        have HL5 := Lib.hid (show Late w.heap.size A' from fun q hq => TOwn.late o5 hq)
        have HG5 := Lib.hid (HG1.out.gb gb5 (fun q hq => TOwn.late HO1.out hq))
        clear o5 gb5 HO1 HS1 HG1
        go_wp2_with fail
        go_ret
        have hlen : (lns [] s).length = n + 1 := by rw [HF.out, List.length_append, HLN.out]; rfl
        exact ⟨⟨A', c', by rw [hlen]; rfl, by unfold GotS; rw [hlen, HF.out]; exact ⟨HO5.out, HL5.out⟩⟩, HG5.out⟩
      · have HF := Lib.hid (hf2 hk)
        have k2 : ¬ (k : Int) < (s.length : Int) := by omega
        have HO5 := Lib.hid HO.out.mem
        have HL5 := Lib.hid (show Late w.heap.size B from fun q hq => TOwn.late HO.out hq)
        clear hLn hf1 hf2 hk HO
        go_wp2_with fail
        go_ret
        have hlen : (lns [] s).length = n := by rw [HF.out, HLN.out]
        exact ⟨⟨B, ⟨c, by rw [hlen]; rfl⟩, (show GotS w.heap.size wr B (lns [] s) from by unfold GotS; rw [hlen, HF.out]; exact ⟨HO5.out, HL5.out⟩)⟩, HG.out⟩
end P12
end Go.Proofs.YtocojdiapaeajaaDoor
