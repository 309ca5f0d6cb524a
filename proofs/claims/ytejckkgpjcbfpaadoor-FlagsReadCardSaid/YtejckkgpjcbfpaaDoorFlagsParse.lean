/-
  Package flags: what Parse answers.
-/
import Derived.Test.YtejckkgpjcbfpaaDoorFlagsAlive
namespace Go.Proofs.YtejckkgpjcbfpaaDoor
open Go.ChangeShapes Go.WideShapes Go.ChangeAt Go.RowKit
set_option linter.unusedVariables false

set_option maxHeartbeats 1000000 in
theorem Parse_short (T : ByteArray) (h : T.size ≤ 3) (w : World) : Calls Tryd.prog 18 #[.string T] w fun e w' => e = .returned (.tuple #[.int .i64 0, .int .i64 9]) ∧ Gr w w' := by
  go_enter Tryd.func18, Tryd.ntmps18
  go_wp2_with fail
  go_ret2
  exact ⟨rfl, Gr.refl _⟩

/-- The text's byte at a place, as the model reads it. -/
theorem idx (T : ByteArray) (i : Nat) (hi : i < T.size) (w : World) : (Instr.index 9 (.string T) (.int .i64 (i : Int))).run Tryd.prog w = .ok (.int .u8 (T[i].toNat : Int)) w := by
  rw [run_index_string w 9 T .i64 (i : Int) Tryd.underlying9, dif_pos ⟨by omega, by omega⟩]
  rfl

section
variable {T R : ByteArray} {v : Int} {A B C : Bool} {X Y x0 x1 x2 : Int}
set_option maxHeartbeats 2000000 in
theorem Parse_run (h : 4 ≤ T.size) (h2 : T.size ≤ 20) (w : World) (hR : T.extract 3 T.size = R)
    (i0 : ∀ w, (Instr.index 9 (.string T) (.int .i64 0)).run Tryd.prog w = .ok (.int .u8 x0) w) (i1 : ∀ w, (Instr.index 9 (.string T) (.int .i64 1)).run Tryd.prog w = .ok (.int .u8 x1) w) (i2 : ∀ w, (Instr.index 9 (.string T) (.int .i64 2)).run Tryd.prog w = .ok (.int .u8 x2) w)
    (eA : (x0 == 76) = A) (eB : (x1 == 87) = B) (eC : (x2 == 83) = C)
    (hc : ∀ w, Calls Tryd.prog 27 #[.string R] w fun e w' => e = .returned (.tuple #[.int .i64 v, .nilIface]) ∧ Gr w w')
    (hp : ∀ w, Calls Tryd.prog 7 #[fl A B C v] w fun e w' => e = .returned (.tuple #[.int .i64 X, .int .i64 Y]) ∧ Gr w w')
    (ht : Tab w) (r s : Int)
    (hlast : (Y = 1 ∧ r = 0 ∧ s = 9) ∨ (Y = 0 ∧ ∃ S : ByteArray, (∀ w, Tab w → Calls Tryd.prog 9 #[.int .i64 X] w fun e w' => e = .returned (.tuple #[.string S, .int .i64 0]) ∧ Gr w w') ∧ (((S.toList == T.toList) = false ∧ r = 0 ∧ s = 9) ∨ (S = T ∧ r = X ∧ s = 0)))) :
    Calls Tryd.prog 18 #[.string T] w fun e w' => e = .returned (.tuple #[.int .i64 r, .int .i64 s]) ∧ Gr w w' := by
  have h0 : ¬ ((T.size : Int) ≤ 3) := by omega
  have cc := fun w => Lib.hid (hc w)
  have cp := fun w => Lib.hid (hp w)
  clear hc hp
  have HR := Lib.hid hR
  clear hR
  go_enter Tryd.func18, Tryd.ntmps18
  go_wp2_with fail
  rw [HR.out]
  refine (cc _).out.mono ?_
  rintro e w1 ⟨rfl, hb1⟩
  go_wp2_with fail
  go_region_held3 (fun w' => Gr w w') (first | exact hb1.dr | exact Gr.trans (by assumption) hb2) (first | (go_at_call 7; (with_reducible refine (cp _).out.mono ?_); rintro ee w2 ⟨rfl, hb2⟩))
  all_goals (
    rename_i w2 hH
    rcases hlast with ⟨rfl, rfl, rfl⟩ | ⟨rfl, S, hS, hlast⟩
    · go_wp2_with fail
      go_ret2
      exact ⟨rfl, hH⟩
    · have cs := fun w ht => Lib.hid (hS w ht)
      clear hS
      go_wp2_with fail
      refine (cs _ (ht.gr hH)).out.mono ?_
      rintro e w3 ⟨rfl, hb3⟩
      rcases hlast with ⟨hne, rfl, rfl⟩ | ⟨rfl, rfl, rfl⟩
      · go_wp2_with fail
        go_ret2
        exact ⟨rfl, hH.trans hb3⟩
      · go_wp2_with fail
        go_ret2
        exact ⟨rfl, hH.trans hb3⟩)
set_option maxHeartbeats 2000000 in
theorem Parse_noint (h : 4 ≤ T.size) (h2 : T.size ≤ 20) (w : World) (hR : T.extract 3 T.size = R) (he : Errs w)
    (hc : ∀ w, Errs w → Calls Tryd.prog 27 #[.string R] w fun e w' => (∃ (v : Int) (N : Nat), e = .returned (.tuple #[.int .i64 v, .iface 57 (.pointer (some ⟨N, 0, none⟩))])) ∧ Gr w w') :
    Calls Tryd.prog 18 #[.string T] w fun e w' => e = .returned (.tuple #[.int .i64 0, .int .i64 9]) ∧ Gr w w' := by
  have h0 : ¬ ((T.size : Int) ≤ 3) := by omega
  have cc := fun w he => Lib.hid (hc w he)
  clear hc
  have HR := Lib.hid hR
  clear hR
  go_enter Tryd.func18, Tryd.ntmps18
  go_wp2_with fail
  rw [HR.out]
  refine (cc _ he).out.mono ?_
  rintro e w1 ⟨⟨v, N, rfl⟩, hb1⟩
  go_wp2_with fail
  go_ret2
  exact ⟨rfl, hb1⟩
end

/-! What is the text of a word, and what is none. -/
def dfold (acc : Nat) (l : List UInt8) : Nat := l.foldl (fun acc c => acc * 10 + (c.toNat - 48)) acc
theorem dfold_le : ∀ (l : List UInt8) (acc : Nat), acc ≤ dfold acc l
  | [], acc => Nat.le_refl _
  | c :: r, acc => by
    have := dfold_le r (acc * 10 + (c.toNat - 48))
    show acc ≤ dfold (acc * 10 + (c.toNat - 48)) r
    omega
theorem parse_digits : ∀ (l : List UInt8) (acc : Nat), (∀ c ∈ l, 48 ≤ c.toNat ∧ c.toNat ≤ 57) → dfold acc l < 9223372036854775808 → Lib.parseUint10 acc l = .ok (dfold acc l)
  | [], acc, _, _ => rfl
  | c :: r, acc, hd, hl => by
    have h1 := hd c (List.mem_cons_self ..)
    have h2 := dfold_le r (acc * 10 + (c.toNat - 48))
    have h3 : dfold acc (c :: r) = dfold (acc * 10 + (c.toNat - 48)) r := rfl
    rw [h3] at hl ⊢
    unfold Lib.parseUint10
    rw [if_pos h1, if_neg (by omega), if_neg (by omega)]
    exact parse_digits r _ (fun x hx => hd x (List.mem_cons_of_mem _ hx)) hl
theorem dec_digits (u : Nat) : ∀ c ∈ Lib.decDigits u, 48 ≤ c.toNat ∧ c.toNat ≤ 57 := by
  induction u using Nat.strongRecOn with
  | ind u ih =>
    rw [Lib.decDigits]
    by_cases h : u < 10
    · rw [dif_pos h]
      intro c hc
      rw [List.mem_singleton.1 hc, dig_toNat h]
      omega
    · rw [dif_neg h]
      intro c hc
      rcases List.mem_append.1 hc with h1 | h1
      · exact ih (u / 10) (by omega) c h1
      · rw [List.mem_singleton.1 h1, dig_toNat (by omega)]
        omega
theorem dec_ne (u : Nat) : Lib.decDigits u ≠ [] := by
  rw [Lib.decDigits]
  by_cases h : u < 10
  · rw [dif_pos h]; simp
  · rw [dif_neg h]; simp
theorem atoi_dec (u : Nat) (hu : u < 9223372036854775808) : Lib.atoiAll (Lib.decDigits u) = .ok (u : Int) := by
  have hd := dec_digits u
  have hv : dfold 0 (Lib.decDigits u) = u := dval_dec u
  have hp := parse_digits (Lib.decDigits u) 0 hd (by rw [hv]; exact hu)
  rw [hv] at hp
  cases hl : Lib.decDigits u with
  | nil => exact absurd hl (dec_ne u)
  | cons c r =>
    rw [hl] at hp hd
    have h1 := hd c (List.mem_cons_self ..)
    have h2 : ¬ (c.toNat = 43 ∨ c.toNat = 45) := by omega
    have h3 : ¬ c.toNat = 45 := by omega
    have hm : Lib.parseMag (c :: r) = .ok u := by
      unfold Lib.parseMag
      rw [if_neg (by simp)]
      exact hp
    unfold Lib.atoiAll
    dsimp only
    rw [if_neg h2, hm]
    dsimp only
    rw [if_neg (by omega), if_neg (fun e => h3 e.1), if_neg h3]
theorem byte_of {T : ByteArray} {i : Nat} {x : UInt8} (hi : i < T.size) (h : T.data.toList[i]? = some x) : T[i] = x := by
  have e : T.data.toList[i]? = some T[i] := by
    rw [List.getElem?_eq_getElem (by simpa using hi)]
    simp
    rfl
  exact Option.some.inj (e.symm.trans h)
theorem tx_size (a b c : Bool) (n : Int) : (tx a b c n).size = 3 + (dgs n).size := by
  unfold tx
  rw [bsize_append, bsize_append, bsize_append, letS_size, letS_size, letS_size]
theorem dgs_pos (n : Int) : 1 ≤ (dgs n).size := by
  have h : (dgs n).size = (Lib.decDigits n.toNat).length := by show (Lib.decDigits n.toNat).toArray.size = _; simp
  have := List.length_pos_iff.2 (dec_ne n.toNat)
  omega
theorem tx_rest (a b c : Bool) (n : Int) : (tx a b c n).extract 3 (tx a b c n).size = dgs n := by
  apply WideShapes.bytes_inj
  have h1 : ((tx a b c n).extract 3 (tx a b c n).size).data.toList = ((tx a b c n).data.toList).extract 3 (tx a b c n).size := by simp [ByteArray.data_extract]
  rw [h1, List.extract_eq_take_drop, tx_data]
  show List.take _ (Lib.decDigits n.toNat) = Lib.decDigits n.toNat
  apply List.take_of_length_le
  have h2 := tx_size a b c n
  have h3 : (dgs n).size = (Lib.decDigits n.toNat).length := by show (Lib.decDigits n.toNat).toArray.size = _; simp
  omega
theorem lb_is (a : Bool) (x : UInt8) (hx : x ≠ 45) : (((lb a x).toNat : Int) == (x.toNat : Int)) = a := by
  cases a
  · have h : (45 : UInt8).toNat ≠ x.toNat := fun e => hx (UInt8.toNat_inj.1 e.symm)
    simp only [lb]
    rw [beq_eq_false_iff_ne]
    intro e
    exact h (by exact_mod_cast e)
  · simp [lb]

theorem Parse_ok (a b c : Bool) (n : Int) (h : 0 ≤ n ∧ n < 268435456) (w : World) (ht : Tab w) :
    Calls Tryd.prog 18 #[.string (tx a b c n)] w fun e w' => e = .returned (.tuple #[.int .i64 (pw a b c n), .int .i64 0]) ∧ Gr w w' := by
  have hs := tx_size a b c n
  have hd := dgs_le h
  have hp := dgs_pos n
  have e0 := byte_of (T := tx a b c n) (i := 0) (x := lb a 76) (by omega) (by rw [tx_data]; rfl)
  have e1 := byte_of (T := tx a b c n) (i := 1) (x := lb b 87) (by omega) (by rw [tx_data]; rfl)
  have e2 := byte_of (T := tx a b c n) (i := 2) (x := lb c 83) (by omega) (by rw [tx_data]; rfl)
  have ha : Lib.atoiAll (dgs n).data.toList = .ok n := by
    have := atoi_dec n.toNat (by omega)
    rw [Int.toNat_of_nonneg h.1] at this
    exact this
  have i0 : ∀ w, (Instr.index 9 (.string (tx a b c n)) (.int .i64 0)).run Tryd.prog w = .ok (.int .u8 ((lb a 76).toNat : Int)) w := fun w => by have := idx (tx a b c n) 0 (by omega) w; rw [e0] at this; exact this
  have i1 : ∀ w, (Instr.index 9 (.string (tx a b c n)) (.int .i64 1)).run Tryd.prog w = .ok (.int .u8 ((lb b 87).toNat : Int)) w := fun w => by have := idx (tx a b c n) 1 (by omega) w; rw [e1] at this; exact this
  have i2 : ∀ w, (Instr.index 9 (.string (tx a b c n)) (.int .i64 2)).run Tryd.prog w = .ok (.int .u8 ((lb c 83).toNat : Int)) w := fun w => by have := idx (tx a b c n) 2 (by omega) w; rw [e2] at this; exact this
  exact Parse_run (by omega) (by omega) w (tx_rest a b c n) i0 i1 i2 (lb_is a 76 (by decide)) (lb_is b 87 (by decide)) (lb_is c 83 (by decide))
    (fun w => Atoi_ok (dgs n) (by omega) n ha w) (fun w => Pack_ok a b c n h w) ht _ _
    (.inr ⟨rfl, tx a b c n, fun w ht => Text_ok a b c n h w ht, .inr ⟨rfl, rfl, rfl⟩⟩)
theorem toList_ne {x y : ByteArray} (h : x ≠ y) : (x.toList == y.toList) = false := by
  rw [ByteArray.toList_eq, ByteArray.toList_eq]
  exact beq_eq_false_iff_ne.2 (fun e => h (WideShapes.bytes_inj e))
theorem Parse_no (T : ByteArray) (hl : T.size ≤ 20) (hn : ∀ a b c n, 0 ≤ n ∧ n < 268435456 → T ≠ tx a b c n) (w : World) (ht : Tab w) (he : Errs w) :
    Calls Tryd.prog 18 #[.string T] w fun e w' => e = .returned (.tuple #[.int .i64 0, .int .i64 9]) ∧ Gr w w' := by
  by_cases h3 : T.size ≤ 3
  · exact Parse_short T h3 w
  · have hR : (T.extract 3 T.size).size ≤ 20 := by rw [ByteArray.size_extract]; omega
    obtain ⟨x0, i0⟩ : ∃ x0 : Int, ∀ w, (Instr.index 9 (.string T) (.int .i64 0)).run Tryd.prog w = .ok (.int .u8 x0) w := ⟨_, idx T 0 (by omega)⟩
    obtain ⟨x1, i1⟩ : ∃ x1 : Int, ∀ w, (Instr.index 9 (.string T) (.int .i64 1)).run Tryd.prog w = .ok (.int .u8 x1) w := ⟨_, idx T 1 (by omega)⟩
    obtain ⟨x2, i2⟩ : ∃ x2 : Int, ∀ w, (Instr.index 9 (.string T) (.int .i64 2)).run Tryd.prog w = .ok (.int .u8 x2) w := ⟨_, idx T 2 (by omega)⟩
    by_cases hv : ∃ v, Lib.atoiAll (T.extract 3 T.size).data.toList = .ok v
    · obtain ⟨v, hv⟩ := hv
      by_cases hm : 0 ≤ v ∧ v < 268435456
      · exact Parse_run (by omega) hl w rfl i0 i1 i2 rfl rfl rfl
          (fun w => Atoi_ok _ hR v hv w) (fun w => Pack_ok _ _ _ v hm w) ht _ _
          (.inr ⟨rfl, tx _ _ _ v, fun w ht => Text_ok _ _ _ v hm w ht, .inl ⟨toList_ne (fun e => hn _ _ _ v hm e.symm), rfl, rfl⟩⟩)
      · exact Parse_run (by omega) hl w rfl i0 i1 i2 rfl rfl rfl
          (fun w => Atoi_ok _ hR v hv w) (fun w => Pack_no _ _ _ v hm w) ht _ _ (.inl ⟨rfl, rfl, rfl⟩)
    · exact Parse_noint (by omega) hl w rfl he (fun w he => Atoi_no _ hR (fun v e => hv ⟨v, e⟩) w he)
end Go.Proofs.YtejckkgpjcbfpaaDoor
