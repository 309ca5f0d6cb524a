/-
  Package prog: more mathematics: how the library cuts texts, and how a plain reader does; numbers; tidy as two variables have it.
-/
import Derived.Test.YtocojdiapaeajaaDoorProgMath
import Derived.Lib.AtoiAll
import Derived.Lib.CutLaws
namespace Go.Proofs.YtocojdiapaeajaaDoor
namespace P12
set_option linter.unusedVariables false

/-! A line cut at each '; '. -/
theorem spl_index : ∀ (s cur : Bs), (Lib.index s [59, 32] = -1 → spl cur s = [cur ++ s]) ∧ (∀ i : Nat, Lib.index s [59, 32] = i → spl cur s = (cur ++ s.take i) :: spl [] (s.drop (i + 2)))
  | [], cur => ⟨fun _ => by simp [spl], fun i h => by simp [Lib.index] at h⟩
  | [x], cur => by
    have e : Lib.index [x] [59, 32] = -1 := by simp [Lib.index, List.isPrefixOf]
    exact ⟨fun _ => by simp [spl], fun i h => by rw [e] at h; omega⟩
  | x :: y :: r, cur => by
    have ih := spl_index (y :: r) (cur ++ [x])
    have hd : Lib.index (x :: y :: r) [59, 32] = if ([59, 32] : Bs).isPrefixOf (x :: y :: r) = true then 0 else if Lib.index (y :: r) [59, 32] == -1 then -1 else Lib.index (y :: r) [59, 32] + 1 := by rw [Lib.index]
    have hge := Lib.index_ge (y :: r) [59, 32]
    have hp : ([59, 32] : Bs).isPrefixOf (x :: y :: r) = true ↔ (x = 59 ∧ y = 32) := by
      simp only [List.isPrefixOf, Bool.and_eq_true, beq_iff_eq, and_true]
      exact ⟨fun h => ⟨h.1.symm, h.2.symm⟩, fun h => ⟨h.1.symm, h.2.symm⟩⟩
    rw [spl]
    by_cases h : x = 59 ∧ y = 32
    · rw [if_pos h]
      rw [if_pos (hp.2 h)] at hd
      refine ⟨fun e => by rw [hd] at e; omega, fun i e => ?_⟩
      obtain rfl : i = 0 := by rw [hd] at e; omega
      simp
    · rw [if_neg h]
      rw [if_neg (fun e => h (hp.1 e))] at hd
      by_cases hm : Lib.index (y :: r) [59, 32] = -1
      · rw [hm] at hd
        simp only [beq_self_eq_true, if_true] at hd
        refine ⟨fun _ => by rw [ih.1 hm]; simp, fun i e => by rw [hd] at e; omega⟩
      · obtain ⟨j, hj⟩ : ∃ j : Nat, Lib.index (y :: r) [59, 32] = j := ⟨(Lib.index (y :: r) [59, 32]).toNat, by omega⟩
        rw [if_neg (by simpa using hm)] at hd
        refine ⟨fun e => by rw [hd] at e; omega, fun i e => ?_⟩
        obtain rfl : i = j + 1 := by rw [hd] at e; omega
        rw [ih.2 j hj]
        simp
theorem splitK_spl : ∀ (n : Nat) (s : Bs), Lib.count s [59, 32] = n → Lib.splitK [59, 32] 0 n s = spl [] s
  | 0, s, h => by
    rcases Lib.index_spec s [59, 32] with ⟨h1, _⟩ | ⟨i, h1, _⟩
    · rw [(spl_index s []).1 h1]; rfl
    · rw [Lib.count_hit (by simp) h1] at h; omega
  | n + 1, s, h => by
    rcases Lib.index_spec s [59, 32] with ⟨h1, _⟩ | ⟨i, h1, _⟩
    · rw [Lib.count_miss h1] at h; omega
    · have hc := Lib.count_hit (s := s) (sub := [59, 32]) (by simp) h1
      rw [(spl_index s []).2 i h1, Lib.splitK, if_neg (by rw [h1]; simp), h1]
      rw [splitK_spl n _ (by simp only [List.length_cons, List.length_nil, Int.toNat_natCast] at hc ⊢; omega)]
      simp
theorem split_spl (s : Bs) : Lib.split s [59, 32] = spl [] s := splitK_spl _ s rfl

/-! A piece cut at its first blank. -/
theorem index_byte (c : UInt8) : ∀ s : Bs, Lib.index s [c] = Lib.indexByte s c
  | [] => by simp [Lib.index, Lib.indexByte]
  | x :: r => by
    rw [Lib.index, Lib.indexByte, index_byte c r]
    by_cases h : x = c
    · subst h; simp [List.isPrefixOf]
    · rw [if_neg (by simp [List.isPrefixOf]; exact fun e => h e.symm)]
      rw [show (x == c) = false from by simpa using h]
      simp
theorem byte_at (c : UInt8) : ∀ s : Bs, (Lib.indexByte s c = -1 ∧ c ∉ s) ∨ (∃ i : Nat, Lib.indexByte s c = i ∧ i < s.length ∧ c ∉ s.take i ∧ s = s.take i ++ c :: s.drop (i + 1))
  | [] => .inl ⟨rfl, by simp⟩
  | x :: r => by
    rw [Lib.indexByte]
    by_cases h : x = c
    · subst h; exact .inr ⟨0, by simp⟩
    · rw [if_neg (by simpa using h)]
      rcases byte_at c r with ⟨h1, h2⟩ | ⟨i, h1, h2, h3, h4⟩
      · left
        rw [h1]
        exact ⟨rfl, by simp; exact ⟨fun e => h e.symm, h2⟩⟩
      · right
        refine ⟨i + 1, ?_, by simp; omega, ?_, ?_⟩
        · rw [h1, if_neg (by simp)]; simp
        · simp only [List.take_succ_cons, List.mem_cons]
          rintro (e | e)
          · exact h e.symm
          · exact h3 e
        · simp only [List.take_succ_cons, List.drop_succ_cons, List.cons_append]
          rw [← h4]
theorem byte_first {c : UInt8} {a b : Bs} (h : c ∉ a) : Lib.indexByte (a ++ c :: b) c = a.length := by
  rcases byte_at c (a ++ c :: b) with ⟨_, h2⟩ | ⟨i, h1, h2, h3, h4⟩
  · exact absurd (by simp) h2
  · rw [h1]
    have := split_first h h3 h4
    rw [this.1]
    simp
    simp at h2
    omega
theorem cut_word {s d : Bs} {k : Int} (h : WordR s k d) : Lib.cut s [32] = (wd k, d, true) := by
  obtain ⟨_, _, _, rfl⟩ := h
  unfold Lib.cut
  rw [index_byte, byte_first (wd_blank k), if_pos (by omega)]
  simp
theorem cut_no {s : Bs} (h : ¬ ∃ k d, WordR s k d) {k : Int} (hk : 0 ≤ k ∧ k ≤ 3) (e : (Lib.cut s [32]).1 = wd k) : (Lib.cut s [32]).2.1 = [] := by
  unfold Lib.cut at e ⊢
  rw [index_byte] at e ⊢
  rcases byte_at 32 s with ⟨h1, h2⟩ | ⟨i, h1, h2, h3, h4⟩
  · rw [h1, if_neg (by omega)]
  · rw [h1, if_pos (by omega)] at e ⊢
    simp only [Int.toNat_natCast, List.length_cons, List.length_nil] at e ⊢
    by_cases hd : s.drop (i + (0 + 1)) = []
    · exact hd
    · exact absurd ⟨k, s.drop (i + 1), hk.1, hk.2, hd, by rw [← e]; exact h4⟩ h

/-! Lines. -/
theorem lns_index : ∀ (s cur : Bs), (Lib.indexByte s 10 = -1 → lns cur s = if cur ++ s = [] then [] else [cur ++ s]) ∧ (∀ i : Nat, Lib.indexByte s 10 = i → lns cur s = (cur ++ s.take i) :: lns [] (s.drop (i + 1)))
  | [], cur => ⟨fun _ => by simp [lns], fun i h => by simp [Lib.indexByte] at h⟩
  | x :: r, cur => by
    have ih := lns_index r (cur ++ [x])
    have hge := Lib.indexByte_ge r 10
    rw [lns, Lib.indexByte]
    by_cases h : x = 10
    · subst h
      simp only [if_true, beq_self_eq_true]
      refine ⟨fun e => by omega, fun i e => ?_⟩
      obtain rfl : i = 0 := by omega
      simp
    · rw [if_neg h, if_neg (by simpa using h)]
      by_cases hm : Lib.indexByte r 10 = -1
      · refine ⟨fun _ => by rw [ih.1 hm]; simp, fun i e => by rw [hm] at e; simp at e⟩
      · rw [if_neg (by simpa using hm)]
        refine ⟨fun e => by omega, fun i e => ?_⟩
        obtain ⟨j, rfl⟩ : ∃ j, i = j + 1 := ⟨i - 1, by omega⟩
        rw [ih.2 j (by omega)]
        simp
/-- What strings.Lines gives of a text that is not empty: the line with its end, the rest. -/
def nxt (s : Bs) : Bs × Bs := if Lib.indexByte s 10 < 0 then (s, []) else (s.take ((Lib.indexByte s 10).toNat + 1), s.drop ((Lib.indexByte s 10).toNat + 1))
theorem trim_end (a : Bs) : Lib.trimSuffix (a ++ [10]) [10] = a := by
  unfold Lib.trimSuffix
  rw [if_pos (by unfold Lib.hasSuffix; rw [List.isSuffixOf_iff_suffix]; exact ⟨a, rfl⟩)]
  simp
theorem trim_none {a : Bs} (h : (10 : UInt8) ∉ a) : Lib.trimSuffix a [10] = a := by
  unfold Lib.trimSuffix
  rw [if_neg]
  unfold Lib.hasSuffix
  rw [List.isSuffixOf_iff_suffix]
  rintro ⟨t, rfl⟩
  exact h (by simp)
theorem lns_nxt {s : Bs} (h : s ≠ []) : lns [] s = Lib.trimSuffix (nxt s).1 [10] :: lns [] (nxt s).2 := by
  unfold nxt
  rcases byte_at 10 s with ⟨h1, h2⟩ | ⟨i, h1, h2, h3, h4⟩
  · rw [(lns_index s []).1 h1, h1, if_neg (by simpa using h), if_pos (by omega)]
    simp only [List.nil_append]
    rw [trim_none h2]
    simp [lns]
  · rw [(lns_index s []).2 i h1, h1, if_neg (by omega)]
    simp only [Int.toNat_natCast, List.nil_append]
    have e : s.take (i + 1) = s.take i ++ [10] := by
      have h5 : s[i]? = some 10 := by
        rw [h4, List.getElem?_append_right (by rw [List.length_take]; omega)]
        have : i - (s.take i).length = 0 := by rw [List.length_take]; omega
        rw [this]; rfl
      rw [List.take_add_one, h5]; rfl
    rw [e, trim_end]
theorem nxt_shorter {s : Bs} (h : s ≠ []) : (nxt s).2.length < s.length ∧ (nxt s).1.length ≤ s.length := by
  have : 0 < s.length := List.length_pos_iff.2 h
  unfold nxt
  split
  · simp; exact this
  · simp; omega

/-! Numbers. -/
def dfold (acc : Nat) (l : Bs) : Nat := l.foldl (fun acc c => acc * 10 + (c.toNat - 48)) acc
theorem dfold_le : ∀ (l : Bs) (acc : Nat), acc ≤ dfold acc l
  | [], acc => Nat.le_refl _
  | c :: r, acc => by
    have := dfold_le r (acc * 10 + (c.toNat - 48))
    show acc ≤ dfold (acc * 10 + (c.toNat - 48)) r
    omega
theorem parse_digits : ∀ (l : Bs) (acc : Nat), (∀ c ∈ l, 48 ≤ c.toNat ∧ c.toNat ≤ 57) → dfold acc l < 9223372036854775808 → Lib.parseUint10 acc l = .ok (dfold acc l)
  | [], acc, _, _ => rfl
  | c :: r, acc, hd, hl => by
    have h1 := hd c (List.mem_cons_self ..)
    have h2 := dfold_le r (acc * 10 + (c.toNat - 48))
    have h3 : dfold acc (c :: r) = dfold (acc * 10 + (c.toNat - 48)) r := rfl
    rw [h3] at hl ⊢
    unfold Lib.parseUint10
    rw [if_pos h1, if_neg (by omega), if_neg (by omega)]
    exact parse_digits r _ (fun x hx => hd x (List.mem_cons_of_mem _ hx)) hl
theorem atoi_dec (u : Nat) (hu : u < 9223372036854775808) : Lib.atoiAll (Lib.decDigits u) = .ok (u : Int) := by
  have hd := dig_digits u
  have hv : dfold 0 (Lib.decDigits u) = u := dval_dec u
  have hp := parse_digits (Lib.decDigits u) 0 hd (by rw [hv]; exact hu)
  rw [hv] at hp
  cases hl : Lib.decDigits u with
  | nil => exact absurd hl (dec_ne u)
  | cons c r =>
    rw [hl] at hp hd
    have h1 := hd c (List.mem_cons_self ..)
    have h2 : ¬ (c.toNat = 43 ∨ c.toNat = 45) := by omega
    have h3 : ¬ c.toNat = 45 := by omega
    have hm : Lib.parseMag (c :: r) = .ok u := by
      unfold Lib.parseMag
      rw [if_neg (by simp)]
      exact hp
    unfold Lib.atoiAll
    dsimp only
    rw [if_neg h2, hm]
    dsimp only
    rw [if_neg (by omega), if_neg (fun e => h3 e.1), if_neg h3]
theorem NumR.atoi {s : Bs} {n : Int} (h : NumR s n) : Lib.atoiAll s = .ok n := by
  obtain ⟨h0, h1, rfl⟩ := h
  unfold dgs
  rw [atoi_dec n.toNat (by omega)]
  congr 1
  omega
theorem nDigits_le : ∀ (k u : Nat), u < 10 ^ (k + 1) → Lib.nDigits u ≤ k + 1
  | 0, u, h => by rw [Lib.nDigits_small (by omega)]; omega
  | k + 1, u, h => by
    by_cases hu : u < 10
    · rw [Lib.nDigits_small hu]; omega
    · rw [Lib.nDigits_big hu]
      have := nDigits_le k (u / 10) (by rw [Nat.pow_succ] at h; omega)
      omega
theorem dgs_len {n : Int} (h : 0 ≤ n ∧ n ≤ 999999) : 1 ≤ (dgs n).length ∧ (dgs n).length ≤ 6 := by
  unfold dgs
  rw [Lib.decDigits_length]
  exact ⟨Lib.nDigits_pos _, nDigits_le 5 n.toNat (by omega)⟩
theorem dfold_lt : ∀ (l : Bs) (acc : Nat), (∀ c ∈ l, 48 ≤ c.toNat ∧ c.toNat ≤ 57) → dfold acc l < (acc + 1) * 10 ^ l.length
  | [], acc, _ => by simp [dfold]
  | c :: r, acc, h => by
    have h1 := h c (List.mem_cons_self ..)
    have h2 := dfold_lt r (acc * 10 + (c.toNat - 48)) (fun x hx => h x (List.mem_cons_of_mem _ hx))
    have h3 : dfold acc (c :: r) = dfold (acc * 10 + (c.toNat - 48)) r := rfl
    rw [h3, List.length_cons, Nat.pow_succ]
    refine Nat.lt_of_lt_of_le h2 ?_
    rw [Nat.mul_comm (10 ^ r.length) 10, ← Nat.mul_assoc]
    exact Nat.mul_le_mul_right _ (by omega)
theorem dfold_append (l m : Bs) (acc : Nat) : dfold acc (l ++ m) = dfold (dfold acc l) m := by simp [dfold]

/-! Rows that are read piece by piece. -/
/-- What is read already, and what the rest is read as. -/
def comb {α : Type} (out : List α) (r : Int × List α) : Int × List α := if r.1 = 0 then (0, out ++ r.2) else (r.1, [])
theorem comb_nil (p : List Bs) (j : Nat) : comb [] (pcsP j p) = pcsP j p := by
  unfold comb
  split
  · rename_i h
    simp only [List.nil_append]
    rw [← h]
  · rename_i h
    have : ∀ (p : List Bs) (j : Nat), (pcsP j p).1 ≠ 0 → (pcsP j p).2 = [] := by
      intro p
      induction p with
      | nil => intro j h; exact absurd rfl h
      | cons s r ih =>
        intro j h
        unfold pcsP at h ⊢
        split at h
        · rw [if_pos ‹_›]
        · rename_i h64
          rw [if_neg h64]
          split at h
          · rw [if_pos ‹_›]
          · rename_i ha
            rw [if_neg ha]
            split at h
            · exact absurd rfl h
            · rw [if_neg ‹_›]
    rw [← this p j h]
theorem pcsP_full {L : List Bs} {k : Nat} {out : List Ac} (hk : k < L.length) (h64 : 64 ≤ k) : comb out (pcsP k (L.drop k)) = (2, []) := by
  rw [List.drop_eq_getElem_cons hk]
  unfold pcsP
  rw [if_pos h64]
  rfl
theorem pcsP_bad {L : List Bs} {k : Nat} {out : List Ac} {s : Bs} (hs : L[k]? = some s) (h64 : k < 64) (hb : (actP s).1 ≠ 0) : comb out (pcsP k (L.drop k)) = ((actP s).1, []) := by
  obtain ⟨hk, rfl⟩ := List.getElem?_eq_some_iff.1 hs
  rw [List.drop_eq_getElem_cons hk]
  unfold pcsP
  rw [if_neg (by omega), if_pos hb]
  unfold comb
  rw [if_neg hb]
theorem pcsP_step {L : List Bs} {k : Nat} {out : List Ac} {s : Bs} (hs : L[k]? = some s) (h64 : k < 64) (hb : (actP s).1 = 0) : comb out (pcsP k (L.drop k)) = comb (out ++ [(actP s).2]) (pcsP (k + 1) (L.drop (k + 1))) := by
  obtain ⟨hk, rfl⟩ := List.getElem?_eq_some_iff.1 hs
  rw [List.drop_eq_getElem_cons hk]
  conv => lhs; unfold pcsP
  rw [if_neg (by omega), if_neg (by simpa using hb)]
  unfold comb
  by_cases h : (pcsP (k + 1) (L.drop (k + 1))).1 = 0
  · rw [if_pos h, if_pos h]; simp
  · rw [if_neg h, if_neg h, if_neg h]
theorem pcsP_end {L : List Bs} {out : List Ac} : comb out (pcsP L.length (L.drop L.length)) = (0, out) := by
  rw [List.drop_length]
  simp [comb, pcsP]
/-- The same of lines. -/
def combL (out : List (List Ac)) (r : Int × Int × List (List Ac)) : Int × Int × List (List Ac) := if r.1 = 0 then (0, 0, out ++ r.2.2) else (r.1, r.2.1, [])
theorem combL_nil (p : List Bs) (j : Nat) : combL [] (lnsP j p) = lnsP j p := by
  unfold combL
  split
  · rename_i h
    have h2 := (lnsP_ok p j h).2.1
    simp only [List.nil_append]
    exact Prod.ext h.symm (Prod.ext h2.symm rfl)
  · rename_i h
    exact Prod.ext rfl (Prod.ext rfl (lnsP_bad p j h).symm)
theorem lnsP_full {s : Bs} {r : List Bs} {k : Nat} {out : List (List Ac)} (h8 : 8 ≤ k) : combL out (lnsP k (s :: r)) = (5, (k : Int), []) := by
  unfold lnsP
  rw [if_pos h8]
  rfl
theorem lnsP_wrong {s : Bs} {r : List Bs} {k : Nat} {out : List (List Ac)} (h8 : k < 8) (hb : (linP s).1 ≠ 0) : combL out (lnsP k (s :: r)) = ((linP s).1, (k : Int), []) := by
  unfold lnsP
  rw [if_neg (by omega), if_pos hb]
  unfold combL
  rw [if_neg hb]
theorem lnsP_step {s : Bs} {r : List Bs} {k : Nat} {out : List (List Ac)} (h8 : k < 8) (hb : (linP s).1 = 0) : combL out (lnsP k (s :: r)) = combL (out ++ [(linP s).2]) (lnsP (k + 1) r) := by
  conv => lhs; unfold lnsP
  rw [if_neg (by omega), if_neg (by simpa using hb)]
  unfold combL
  by_cases h : (lnsP (k + 1) r).1 = 0
  · rw [if_pos h, if_pos h]; simp
  · rw [if_neg h, if_neg h, if_neg h]
theorem lnsP_end {k : Nat} {out : List (List Ac)} : combL out (lnsP k []) = (0, 0, out) := by simp [combL, lnsP]
/-- What a piece's, a line's and a text's error can be. -/
theorem pcsP_err : ∀ (p : List Bs) (j : Nat), 0 ≤ (pcsP j p).1 ∧ (pcsP j p).1 ≤ 9
  | [], j => by simp [pcsP]
  | s :: r, j => by
    have h := pcsP_err r (j + 1)
    have ha := @actP_bad s
    unfold pcsP
    split
    · simp
    · split
      · rename_i hb; have := ha hb; simp only; omega
      · split
        · simp
        · exact h
theorem linP_err (s : Bs) : 0 ≤ (linP s).1 ∧ (linP s).1 ≤ 9 := by
  unfold linP
  split
  · simp
  · exact pcsP_err _ _
theorem linP_bad {s : Bs} (h : (linP s).1 ≠ 0) : (linP s).2 = [] := by
  unfold linP at h ⊢
  split at h
  · exact absurd rfl h
  · rename_i hs
    rw [if_neg hs]
    have := comb_nil (spl [] s) 0
    unfold comb at this
    rw [if_neg h] at this
    rw [← this]

/-! Tidy, as two variables have it: whether one is held, and which. -/
theorem held_none {r : List Ac} : held none ([] ++ r) = held none r := rfl
/-- What is held, in one. -/
def ho (b : Bool) (m : Int) : Option Int := if b then some m else none
theorem held_try {b : Bool} {m : Int} {a : Ac} {r : List Ac} (h : a.1 = 1) : held (ho b m) (a :: r) = none := by rw [held, if_pos h]
theorem held_lock_no {m : Int} {a : Ac} {r : List Ac} (h : a.1 = 0) : held (ho true m) (a :: r) = none := by rw [held, if_neg (by omega), if_pos h]; rfl
theorem held_lock {m : Int} {a : Ac} {r : List Ac} (h : a.1 = 0) : held (ho false m) (a :: r) = held (ho true a.2) r := by rw [held, if_neg (by omega), if_pos h]; rfl
theorem held_unlock_no {b : Bool} {m : Int} {a : Ac} {r : List Ac} (h : a.1 = 2) (hb : b = false ∨ a.2 ≠ m) : held (ho b m) (a :: r) = none := by
  rw [held, if_neg (by omega), if_neg (by omega), if_pos h, if_neg]
  intro e
  cases b
  · cases e
  · rcases hb with hb | hb
    · cases hb
    · exact hb (Option.some.inj e).symm
theorem held_unlock {m : Int} {a : Ac} {r : List Ac} (h : a.1 = 2) (hm : a.2 = m) : held (ho true m) (a :: r) = held (ho false m) r := by
  rw [held, if_neg (by omega), if_neg (by omega), if_pos h, if_pos (by rw [hm]; rfl)]; rfl
theorem held_other {b : Bool} {m : Int} {a : Ac} {r : List Ac} (h0 : a.1 ≠ 0) (h1 : a.1 ≠ 1) (h2 : a.1 ≠ 2) : held (ho b m) (a :: r) = held (ho b m) r := by
  rw [held, if_neg h1, if_neg h0, if_neg h2]
theorem tidy_end (b : Bool) (m : Int) : (held (ho b m) [] == some none) = !b := by cases b <;> rfl
end P12
end Go.Proofs.YtocojdiapaeajaaDoor
