/-
  Package prog: the mathematics: what acts, lines and texts are, what they are read as; what is printed is read as it was; tidy.
-/
import Derived.Test.YtocojdiapaeajaaDoorBase
import Derived.Lib.ItoaNum
import Derived.Lib.Split
import Derived.Lib.SplitLaws
import Derived.Lib.Join
import Derived.Lib.Strings
namespace Go.Proofs.YtocojdiapaeajaaDoor
namespace P12
set_option linter.unusedVariables false

abbrev Bs := List UInt8
/-- An act: its kind, its number. -/
abbrev Ac := Int × Int
def okA (a : Ac) : Bool := if a.1 = 3 then decide (0 ≤ a.2) && decide (a.2 ≤ 1000) else decide (0 ≤ a.1) && decide (a.1 ≤ 2) && decide (0 ≤ a.2) && decide (a.2 ≤ 3)
theorem okA_iff {a : Ac} : okA a = true ↔ (a.1 = 3 ∧ 0 ≤ a.2 ∧ a.2 ≤ 1000) ∨ (0 ≤ a.1 ∧ a.1 ≤ 2 ∧ 0 ≤ a.2 ∧ a.2 ≤ 3) := by
  unfold okA
  split <;> simp <;> omega
def rightB (l : List (List Ac)) : Bool := decide (l.length ≤ 8) && l.all fun p => decide (p.length ≤ 64) && p.all okA
/-- The word of a kind. -/
def wd (k : Int) : Bs := if k = 0 then [108, 111, 99, 107] else if k = 1 then [116, 114, 121] else if k = 2 then [117, 110, 108, 111, 99, 107] else [119, 111, 114, 107]
def dgs (n : Int) : Bs := Lib.decDigits n.toNat
def actS (a : Ac) : Bs := wd a.1 ++ 32 :: dgs a.2
def lineS (p : List Ac) : Bs := Lib.join (p.map actS) [59, 32]
def textS (l : List (List Ac)) : Bs := l.flatMap fun p => lineS p ++ [10]

/-! Digits. -/
theorem dig_digits (u : Nat) : ∀ c ∈ Lib.decDigits u, 48 ≤ c.toNat ∧ c.toNat ≤ 57 := by
  induction u using Nat.strongRecOn with
  | ind u ih =>
    rw [Lib.decDigits]
    have hd : ∀ k, k < 10 → (UInt8.ofNat (48 + k)).toNat = 48 + k := fun k hk => by
      rw [UInt8.toNat_ofNat']; omega
    by_cases h : u < 10
    · rw [dif_pos h]
      intro c hc
      rw [List.mem_singleton.1 hc, hd u h]
      omega
    · rw [dif_neg h]
      intro c hc
      rcases List.mem_append.1 hc with h1 | h1
      · exact ih (u / 10) (by omega) c h1
      · rw [List.mem_singleton.1 h1, hd _ (by omega)]
        omega
def dval (l : Bs) : Nat := l.foldl (fun acc c => acc * 10 + (c.toNat - 48)) 0
theorem dval_dec (u : Nat) : dval (Lib.decDigits u) = u := by
  induction u using Nat.strongRecOn with
  | ind u ih =>
    have hd : ∀ k, k < 10 → (UInt8.ofNat (48 + k)).toNat = 48 + k := fun k hk => by
      rw [UInt8.toNat_ofNat']; omega
    rw [Lib.decDigits]
    by_cases h : u < 10
    · rw [dif_pos h]
      simp [dval]
      omega
    · rw [dif_neg h]
      have e := ih (u / 10) (by omega)
      unfold dval at e ⊢
      rw [List.foldl_append, e]
      simp only [List.foldl_cons, List.foldl_nil, hd _ (Nat.mod_lt u (by omega : 0 < 10))]
      omega
theorem dec_inj {u v : Nat} (h : Lib.decDigits u = Lib.decDigits v) : u = v := by rw [← dval_dec u, ← dval_dec v, h]
theorem dec_ne (u : Nat) : Lib.decDigits u ≠ [] := by
  rw [Lib.decDigits]
  by_cases h : u < 10
  · rw [dif_pos h]; simp
  · rw [dif_neg h]; simp

/-- It is a number of at most six digits, as a text has it. -/
def NumR (s : Bs) (n : Int) : Prop := 0 ≤ n ∧ n ≤ 999999 ∧ s = dgs n
theorem NumR.inj {s : Bs} {m n : Int} (h : NumR s m) (k : NumR s n) : m = n := by
  have := dec_inj (h.2.2.symm.trans k.2.2)
  have := h.1
  have := k.1
  omega

/-! One act. -/
/-- A word, a blank, and something behind it. -/
def WordR (s : Bs) (k : Int) (d : Bs) : Prop := 0 ≤ k ∧ k ≤ 3 ∧ d ≠ [] ∧ s = wd k ++ 32 :: d
theorem wd_blank (k : Int) : (32 : UInt8) ∉ wd k := by unfold wd; split <;> (try split) <;> (try split) <;> decide
theorem split_first {c : UInt8} {a b x y : Bs} (ha : c ∉ a) (hb : c ∉ b) (h : a ++ c :: x = b ++ c :: y) : a = b ∧ x = y := by
  induction a generalizing b with
  | nil =>
    cases b with
    | nil => simpa using h
    | cons u b => simp at h; exact absurd (by rw [h.1]; simp) hb
  | cons v a ih =>
    cases b with
    | nil => simp at h; exact absurd (by rw [h.1]; simp) ha
    | cons u b =>
      simp at h ha hb
      obtain ⟨h1, h2⟩ := ih ha.2 hb.2 h.2
      exact ⟨by rw [h.1, h1], h2⟩
theorem wd_inj {j k : Int} (hj : 0 ≤ j ∧ j ≤ 3) (hk : 0 ≤ k ∧ k ≤ 3) (h : wd j = wd k) : j = k := by
  have e1 : j = 0 ∨ j = 1 ∨ j = 2 ∨ j = 3 := by omega
  have e2 : k = 0 ∨ k = 1 ∨ k = 2 ∨ k = 3 := by omega
  rcases e1 with rfl | rfl | rfl | rfl <;> rcases e2 with rfl | rfl | rfl | rfl <;> first | rfl | (revert h; decide)
theorem WordR.inj {s : Bs} {j k : Int} {c d : Bs} (h : WordR s j c) (g : WordR s k d) : j = k ∧ c = d := by
  obtain ⟨e, f⟩ := split_first (wd_blank j) (wd_blank k) (h.2.2.2.symm.trans g.2.2.2)
  exact ⟨wd_inj ⟨h.1, h.2.1⟩ ⟨g.1, g.2.1⟩ e, f⟩
open Classical in
/-- What a piece is read as: an error, or 0 and the act. -/
noncomputable def actP (s : Bs) : Int × Ac :=
  if h : ∃ k d, WordR s k d then
    if g : ∃ n, NumR h.choose_spec.choose n then
      if okA (h.choose, g.choose) then (0, (h.choose, g.choose)) else (3, (0, 0))
    else (9, (0, 0))
  else (8, (0, 0))
/-- What it can be, in the four ways. -/
theorem actP_cases (s : Bs) :
    ((¬ ∃ k d, WordR s k d) ∧ actP s = (8, (0, 0))) ∨
    (∃ k d, WordR s k d ∧ (((¬ ∃ n, NumR d n) ∧ actP s = (9, (0, 0))) ∨ (∃ n, NumR d n ∧ ((okA (k, n) = false ∧ actP s = (3, (0, 0))) ∨ (okA (k, n) = true ∧ actP s = (0, (k, n))))))) := by
  by_cases h : ∃ k d, WordR s k d
  · right
    refine ⟨h.choose, h.choose_spec.choose, h.choose_spec.choose_spec, ?_⟩
    by_cases g : ∃ n, NumR h.choose_spec.choose n
    · right
      refine ⟨g.choose, g.choose_spec, ?_⟩
      unfold actP
      rw [dif_pos h, dif_pos g]
      cases okA (h.choose, g.choose)
      · exact .inl ⟨rfl, rfl⟩
      · exact .inr ⟨rfl, rfl⟩
    · left
      refine ⟨g, ?_⟩
      unfold actP
      rw [dif_pos h, dif_neg g]
  · left
    refine ⟨h, ?_⟩
    unfold actP
    rw [dif_neg h]
theorem actP_word {s : Bs} (h : ¬ ∃ k d, WordR s k d) : actP s = (8, (0, 0)) := by
  rcases actP_cases s with ⟨_, h1⟩ | ⟨k, d, hw, _⟩
  · exact h1
  · exact absurd ⟨k, d, hw⟩ h
theorem actP_char {s d : Bs} {k : Int} (h : WordR s k d) (g : ¬ ∃ n, NumR d n) : actP s = (9, (0, 0)) := by
  rcases actP_cases s with ⟨h1, _⟩ | ⟨k', d', hw, h2⟩
  · exact absurd ⟨k, d, h⟩ h1
  · obtain ⟨rfl, rfl⟩ := h.inj hw
    rcases h2 with ⟨_, h2⟩ | ⟨n, hn, _⟩
    · exact h2
    · exact absurd ⟨n, hn⟩ g
theorem actP_num {s d : Bs} {k n : Int} (h : WordR s k d) (g : NumR d n) : actP s = if okA (k, n) = true then (0, (k, n)) else (3, (0, 0)) := by
  rcases actP_cases s with ⟨h1, _⟩ | ⟨k', d', hw, h2⟩
  · exact absurd ⟨k, d, h⟩ h1
  · obtain ⟨rfl, rfl⟩ := h.inj hw
    rcases h2 with ⟨h2, _⟩ | ⟨m, hm, h2⟩
    · exact absurd ⟨n, g⟩ h2
    · obtain rfl := g.inj hm
      rcases h2 with ⟨e, h2⟩ | ⟨e, h2⟩ <;> simp [e, h2]
theorem actP_actS {a : Ac} (h : okA a = true) : actP (actS a) = (0, a) := by
  have hi := okA_iff.1 h
  have hw : WordR (actS a) a.1 (dgs a.2) := ⟨by omega, by omega, dec_ne _, rfl⟩
  have hn : NumR (dgs a.2) a.2 := ⟨by omega, by omega, rfl⟩
  rw [actP_num hw hn, if_pos h]
theorem actP_ok {s : Bs} (h : (actP s).1 = 0) : okA (actP s).2 = true ∧ s = actS (actP s).2 := by
  rcases actP_cases s with ⟨_, h1⟩ | ⟨k, d, hw, ⟨_, h1⟩ | ⟨n, hn, ⟨_, h1⟩ | ⟨ho, h1⟩⟩⟩
  · rw [h1] at h; cases h
  · rw [h1] at h; cases h
  · rw [h1] at h; cases h
  · rw [h1]
    exact ⟨ho, by show s = wd k ++ 32 :: dgs n; rw [hw.2.2.2, hn.2.2]⟩
theorem actP_bad {s : Bs} (h : (actP s).1 ≠ 0) : (actP s).2 = (0, 0) ∧ ((actP s).1 = 8 ∨ (actP s).1 = 9 ∨ (actP s).1 = 3) := by
  rcases actP_cases s with ⟨_, h1⟩ | ⟨k, d, hw, ⟨_, h1⟩ | ⟨n, hn, ⟨_, h1⟩ | ⟨ho, h1⟩⟩⟩
  · rw [h1]; exact ⟨rfl, .inl rfl⟩
  · rw [h1]; exact ⟨rfl, .inr (.inl rfl)⟩
  · rw [h1]; exact ⟨rfl, .inr (.inr rfl)⟩
  · rw [h1] at h; exact absurd rfl h

/-! Pieces. -/
/-- What so many pieces are read as, where j are ahead of them: an error, or 0 and the acts. -/
noncomputable def pcsP : Nat → List Bs → Int × List Ac
  | _, [] => (0, [])
  | j, s :: r => if 64 ≤ j then (2, []) else if (actP s).1 ≠ 0 then ((actP s).1, []) else if (pcsP (j + 1) r).1 = 0 then (0, (actP s).2 :: (pcsP (j + 1) r).2) else ((pcsP (j + 1) r).1, [])
/-- A line, cut at each '; ': what of the piece is there is ahead. -/
def spl : Bs → Bs → List Bs
  | cur, [] => [cur]
  | cur, [x] => [cur ++ [x]]
  | cur, x :: y :: r => if x = 59 ∧ y = 32 then cur :: spl [] r else spl (cur ++ [x]) (y :: r)
/-- What a line is read as. -/
noncomputable def linP (s : Bs) : Int × List Ac := if s = [] then (0, []) else pcsP 0 (spl [] s)
/-- A text's lines: what of the line is there is ahead. -/
def lns : Bs → Bs → List Bs
  | cur, [] => if cur = [] then [] else [cur]
  | cur, x :: r => if x = 10 then cur :: lns [] r else lns (cur ++ [x]) r
/-- What so many lines are read as, where i are ahead of them. -/
noncomputable def lnsP : Nat → List Bs → Int × Int × List (List Ac)
  | _, [] => (0, 0, [])
  | i, s :: r => if 8 ≤ i then (5, i, []) else if (linP s).1 ≠ 0 then ((linP s).1, i, []) else if (lnsP (i + 1) r).1 = 0 then (0, 0, (linP s).2 :: (lnsP (i + 1) r).2.2) else ((lnsP (i + 1) r).1, (lnsP (i + 1) r).2.1, [])
/-- What a text is read as: the error, the line, the programs. -/
noncomputable def prs (t : Bs) : Int × Int × List (List Ac) := if 2000 < t.length then (2, 0, []) else lnsP 0 (lns [] t)

/-! What is printed is read as it was. -/
theorem wd_bytes (k : Int) : ∀ c ∈ wd k, 97 ≤ c.toNat := by unfold wd; split <;> (try split) <;> (try split) <;> decide
theorem actS_bytes (a : Ac) : ∀ c ∈ actS a, c ≠ 59 ∧ c ≠ 10 := by
  intro c hc
  unfold actS at hc
  rcases List.mem_append.1 hc with h | h
  · have := wd_bytes a.1 c h
    exact ⟨fun e => by subst e; revert this; decide, fun e => by subst e; revert this; decide⟩
  · rcases List.mem_cons.1 h with rfl | h
    · decide
    · have := dig_digits _ c h
      exact ⟨fun e => by subst e; revert this; decide, fun e => by subst e; revert this; decide⟩
theorem actS_ne (a : Ac) : actS a ≠ [] := by unfold actS; simp
theorem spl_none : ∀ (s cur : Bs), (∀ c ∈ s, c ≠ 59) → spl cur s = [cur ++ s]
  | [], cur, _ => by simp [spl]
  | [x], cur, _ => by simp [spl]
  | x :: y :: r, cur, h => by
    unfold spl
    rw [if_neg (fun e => (h x (by simp)) e.1), spl_none (y :: r) _ (fun c hc => h c (List.mem_cons_of_mem _ hc))]
    simp
theorem spl_first : ∀ (s cur r : Bs), (∀ c ∈ s, c ≠ 59) → spl cur (s ++ 59 :: 32 :: r) = (cur ++ s) :: spl [] r
  | [], cur, r, _ => by
    show spl cur (59 :: 32 :: r) = _
    rw [spl]
    simp
  | [x], cur, r, h => by
    show spl cur (x :: 59 :: 32 :: r) = _
    rw [spl]
    rw [if_neg (fun e => (h x (by simp)) e.1)]
    show spl (cur ++ [x]) (59 :: 32 :: r) = _
    rw [spl]
    simp
  | x :: y :: s, cur, r, h => by
    show spl cur (x :: y :: (s ++ 59 :: 32 :: r)) = _
    rw [spl]
    rw [if_neg (fun e => (h x (by simp)) e.1)]
    have := spl_first (y :: s) (cur ++ [x]) r (fun c hc => h c (List.mem_cons_of_mem _ hc))
    rw [show (y :: s) ++ 59 :: 32 :: r = y :: (s ++ 59 :: 32 :: r) from rfl] at this
    rw [this]
    simp
theorem lineS_cons (a b : Ac) (p : List Ac) : lineS (a :: b :: p) = actS a ++ 59 :: 32 :: lineS (b :: p) := by
  unfold lineS
  simp only [List.map_cons]
  rw [Lib.join_cons, Lib.join_cons]
  simp [Lib.joinTail]
theorem lineS_one (a : Ac) : lineS [a] = actS a := by unfold lineS; simp [Lib.join_one]
theorem lineS_nil : lineS [] = [] := rfl
theorem spl_lineS : ∀ (p : List Ac), p ≠ [] → spl [] (lineS p) = p.map actS
  | [], h => absurd rfl h
  | [a], _ => by rw [lineS_one, spl_none _ _ (fun c hc => (actS_bytes a c hc).1)]; rfl
  | a :: b :: p, _ => by
    rw [lineS_cons, spl_first _ _ _ (fun c hc => (actS_bytes a c hc).1), spl_lineS (b :: p) (by simp)]
    rfl
theorem lineS_ne {p : List Ac} (h : p ≠ []) : lineS p ≠ [] := by
  match p, h with
  | [a], _ => rw [lineS_one]; exact actS_ne a
  | a :: b :: p, _ => rw [lineS_cons]; simp
theorem lineS_bytes : ∀ (p : List Ac), ∀ c ∈ lineS p, c ≠ 10
  | [], c, h => by cases h
  | [a], c, h => by rw [lineS_one] at h; exact (actS_bytes a c h).2
  | a :: b :: p, c, h => by
    rw [lineS_cons] at h
    rcases List.mem_append.1 h with h | h
    · exact (actS_bytes a c h).2
    · rcases List.mem_cons.1 h with rfl | h
      · decide
      · rcases List.mem_cons.1 h with rfl | h
        · decide
        · exact lineS_bytes (b :: p) c h
theorem pcsP_acts : ∀ (p : List Ac) (j : Nat), (∀ a ∈ p, okA a = true) → j + p.length ≤ 64 → pcsP j (p.map actS) = (0, p)
  | [], j, _, _ => rfl
  | a :: p, j, h, hl => by
    simp only [List.length_cons] at hl
    have ha := actP_actS (h a (by simp))
    have ih := pcsP_acts p (j + 1) (fun x hx => h x (List.mem_cons_of_mem _ hx)) (by omega)
    show pcsP j (actS a :: p.map actS) = _
    unfold pcsP
    rw [if_neg (by omega), ha, ih]
    simp
theorem linP_lineS {p : List Ac} (h : ∀ a ∈ p, okA a = true) (hl : p.length ≤ 64) : linP (lineS p) = (0, p) := by
  unfold linP
  by_cases hp : p = []
  · subst hp; simp [lineS_nil]
  · rw [if_neg (lineS_ne hp), spl_lineS p hp, pcsP_acts p 0 h (by omega)]
theorem lns_first : ∀ (s cur r : Bs), (∀ c ∈ s, c ≠ 10) → lns cur (s ++ 10 :: r) = (cur ++ s) :: lns [] r
  | [], cur, r, _ => by
    show lns cur (10 :: r) = _
    rw [lns]
    simp
  | x :: s, cur, r, h => by
    show lns cur (x :: (s ++ 10 :: r)) = _
    rw [lns, if_neg (h x (by simp)), lns_first s _ r (fun c hc => h c (List.mem_cons_of_mem _ hc))]
    simp
theorem lns_none : ∀ (s cur : Bs), (∀ c ∈ s, c ≠ 10) → cur ++ s ≠ [] → lns cur s = [cur ++ s]
  | [], cur, _, hn => by simp [lns] at hn ⊢; exact hn
  | x :: s, cur, h, _ => by
    unfold lns
    rw [if_neg (h x (by simp)), lns_none s _ (fun c hc => h c (List.mem_cons_of_mem _ hc)) (by simp)]
    simp
theorem textS_cons (p : List Ac) (l : List (List Ac)) : textS (p :: l) = lineS p ++ 10 :: textS l := by simp [textS]
theorem textS_append (a b : List (List Ac)) : textS (a ++ b) = textS a ++ textS b := by simp [textS]
theorem lns_textS : ∀ l : List (List Ac), lns [] (textS l) = l.map lineS
  | [] => rfl
  | p :: l => by rw [textS_cons, lns_first _ _ _ (lineS_bytes p), lns_textS l]; rfl
/-- Each may be, however many there are. -/
def Fit (l : List (List Ac)) : Prop := ∀ p ∈ l, p.length ≤ 64 ∧ ∀ a ∈ p, okA a = true
theorem right_iff {l : List (List Ac)} : rightB l = true ↔ l.length ≤ 8 ∧ Fit l := by simp [rightB, Fit]
theorem lnsP_fit : ∀ (l : List (List Ac)) (i : Nat), Fit l → ((i + l.length ≤ 8 ∨ l = []) → lnsP i (l.map lineS) = (0, 0, l)) ∧ (¬ (i + l.length ≤ 8 ∨ l = []) → lnsP i (l.map lineS) = (5, ((max i 8 : Nat) : Int), []))
  | [], i, _ => ⟨fun _ => rfl, fun h => absurd (.inr rfl) h⟩
  | p :: l, i, h => by
    have hp := linP_lineS (h p (by simp)).2 (h p (by simp)).1
    have ih := lnsP_fit l (i + 1) (fun q hq => h q (List.mem_cons_of_mem _ hq))
    have e : lnsP i ((p :: l).map lineS) = if 8 ≤ i then (5, (i : Int), []) else if (lnsP (i + 1) (l.map lineS)).1 = 0 then (0, 0, p :: (lnsP (i + 1) (l.map lineS)).2.2) else ((lnsP (i + 1) (l.map lineS)).1, (lnsP (i + 1) (l.map lineS)).2.1, []) := by
      show lnsP i (lineS p :: l.map lineS) = _
      rw [lnsP, hp]
      simp
    rw [e]
    by_cases h8 : 8 ≤ i
    · rw [if_pos h8, Nat.max_eq_left h8]
      exact ⟨fun h => by simp at h; omega, fun _ => rfl⟩
    · rw [if_neg h8]
      by_cases hl : i + 1 + l.length ≤ 8 ∨ l = []
      · rw [ih.1 hl]
        refine ⟨fun _ => by simp, fun hn => absurd (.inl ?_) hn⟩
        rcases hl with hl | rfl
        · simp; omega
        · simp; omega
      · rw [ih.2 hl]
        refine ⟨fun hn => ?_, fun _ => ?_⟩
        · exfalso
          apply hl
          rcases hn with hn | hn
          · simp at hn; left; omega
          · cases hn
        · rw [if_neg (by simp), Nat.max_eq_right (by omega), Nat.max_eq_right (by omega)]
theorem prs_textS {l : List (List Ac)} (h : rightB l = true) (hs : (textS l).length ≤ 2000) : prs (textS l) = (0, 0, l) := by
  obtain ⟨h8, hf⟩ := right_iff.1 h
  unfold prs
  rw [if_neg (by omega), lns_textS, (lnsP_fit l 0 hf).1 (.inl (by omega))]
theorem prs_many {l : List (List Ac)} (h : Fit l) (h8 : 8 < l.length) (hs : (textS l).length ≤ 2000) : prs (textS l) = (5, 8, []) := by
  unfold prs
  rw [if_neg (by omega), lns_textS, (lnsP_fit l 0 h).2 (by rintro (h1 | h1); omega; subst h1; simp at h8)]
  rfl
theorem prs_long {t : Bs} (h : 2000 < t.length) : prs t = (2, 0, []) := by unfold prs; rw [if_pos h]
/-! What is read may be. -/
theorem pcsP_ok : ∀ (r : List Bs) (j : Nat), (pcsP j r).1 = 0 → (∀ a ∈ (pcsP j r).2, okA a = true) ∧ (pcsP j r).2.length = r.length ∧ (r = [] ∨ j + r.length ≤ 64)
  | [], j, _ => ⟨by simp [pcsP], rfl, .inl rfl⟩
  | s :: r, j, h => by
    unfold pcsP at h ⊢
    by_cases h64 : 64 ≤ j
    · rw [if_pos h64] at h; cases h
    · rw [if_neg h64] at h ⊢
      by_cases ha : (actP s).1 ≠ 0
      · rw [if_pos ha] at h; exact absurd h ha
      · rw [if_neg ha] at h ⊢
        by_cases hr : (pcsP (j + 1) r).1 = 0
        · rw [if_pos hr]
          obtain ⟨h1, h2, h3⟩ := pcsP_ok r (j + 1) hr
          refine ⟨fun a hm => ?_, by simp [h2], .inr ?_⟩
          · rcases List.mem_cons.1 hm with rfl | hm
            · exact (actP_ok (by simpa using ha)).1
            · exact h1 a hm
          · rcases h3 with rfl | h3
            · simp; omega
            · simp; omega
        · rw [if_neg hr] at h; exact absurd h hr
theorem linP_ok {s : Bs} (h : (linP s).1 = 0) : (linP s).2.length ≤ 64 ∧ ∀ a ∈ (linP s).2, okA a = true := by
  unfold linP at h ⊢
  by_cases hs : s = []
  · rw [if_pos hs]; simp
  · rw [if_neg hs] at h ⊢
    obtain ⟨h1, h2, h3⟩ := pcsP_ok _ _ h
    refine ⟨?_, h1⟩
    rw [h2]
    rcases h3 with h3 | h3
    · rw [h3]; simp
    · omega
theorem lnsP_ok : ∀ (r : List Bs) (i : Nat), (lnsP i r).1 = 0 → Fit (lnsP i r).2.2 ∧ (lnsP i r).2.1 = 0 ∧ (lnsP i r).2.2.length = r.length ∧ (r = [] ∨ i + r.length ≤ 8)
  | [], i, _ => ⟨by simp [lnsP, Fit], rfl, rfl, .inl rfl⟩
  | s :: r, i, h => by
    unfold lnsP at h ⊢
    by_cases h8 : 8 ≤ i
    · rw [if_pos h8] at h; cases h
    · rw [if_neg h8] at h ⊢
      by_cases ha : (linP s).1 ≠ 0
      · rw [if_pos ha] at h; exact absurd h ha
      · rw [if_neg ha] at h ⊢
        by_cases hr : (lnsP (i + 1) r).1 = 0
        · rw [if_pos hr]
          obtain ⟨h1, h2, h3, h4⟩ := lnsP_ok r (i + 1) hr
          refine ⟨fun p hm => ?_, rfl, by simp [h3], .inr ?_⟩
          · rcases List.mem_cons.1 hm with rfl | hm
            · exact linP_ok (by simpa using ha)
            · exact h1 p hm
          · rcases h4 with rfl | h4
            · simp; omega
            · simp; omega
        · rw [if_neg hr] at h; exact absurd h hr
theorem lnsP_bad : ∀ (r : List Bs) (i : Nat), (lnsP i r).1 ≠ 0 → (lnsP i r).2.2 = []
  | [], i, h => absurd rfl h
  | s :: r, i, h => by
    unfold lnsP at h ⊢
    by_cases h8 : 8 ≤ i
    · rw [if_pos h8]
    · rw [if_neg h8] at h ⊢
      by_cases ha : (linP s).1 ≠ 0
      · rw [if_pos ha]
      · rw [if_neg ha] at h ⊢
        by_cases hr : (lnsP (i + 1) r).1 = 0
        · rw [if_pos hr] at h; exact absurd rfl h
        · rw [if_neg hr]
theorem prs_bad {t : Bs} (h : (prs t).1 ≠ 0) : (prs t).2.2 = [] := by
  unfold prs at h ⊢
  by_cases h2 : 2000 < t.length
  · rw [if_pos h2]
  · rw [if_neg h2] at h ⊢
    exact lnsP_bad _ _ h
theorem prs_right {t : Bs} (h : (prs t).1 = 0) : rightB (prs t).2.2 = true ∧ (prs t).2.1 = 0 := by
  unfold prs at h ⊢
  by_cases h2 : 2000 < t.length
  · rw [if_pos h2] at h; cases h
  · rw [if_neg h2] at h ⊢
    obtain ⟨h1, h3, h4, h5⟩ := lnsP_ok _ _ h
    refine ⟨right_iff.2 ⟨?_, h1⟩, h3⟩
    rw [h4]
    rcases h5 with h5 | h5
    · rw [h5]; simp
    · omega
/-- The three acts of 'alive'. -/
theorem prs_alive : prs [108, 111, 99, 107, 32, 48, 59, 32, 119, 111, 114, 107, 32, 53, 59, 32, 117, 110, 108, 111, 99, 107, 32, 48] = (0, 0, [[(0, 0), (3, 5), (2, 0)]]) := by
  have e : ([108, 111, 99, 107, 32, 48, 59, 32, 119, 111, 114, 107, 32, 53, 59, 32, 117, 110, 108, 111, 99, 107, 32, 48] : Bs) = lineS [(0, 0), (3, 5), (2, 0)] := by
    rw [lineS_cons, lineS_cons, lineS_one]
    simp only [actS, dgs]
    rw [show (0 : Int).toNat = 0 from rfl, show (5 : Int).toNat = 5 from rfl, Lib.decDigits_one (by omega), Lib.decDigits_one (by omega)]
    decide
  rw [e]
  have hl : linP (lineS [(0, 0), (3, 5), (2, 0)]) = (0, [(0, 0), (3, 5), (2, 0)]) := linP_lineS (by decide) (by decide)
  unfold prs
  rw [if_neg (by rw [← e]; decide), lns_none _ _ (lineS_bytes _) (by simpa using lineS_ne (by simp))]
  show lnsP 0 [lineS [(0, 0), (3, 5), (2, 0)]] = _
  unfold lnsP
  rw [hl]
  rfl

/-! Tidy. -/
/-- What is held behind acts: none, if they are not tidy on the way. -/
def held : Option Int → List Ac → Option (Option Int)
  | h, [] => some h
  | h, a :: r => if a.1 = 1 then none else if a.1 = 0 then (if h.isSome then none else held (some a.2) r) else if a.1 = 2 then (if h = some a.2 then held none r else none) else held h r
def tidyB (l : List Ac) : Bool := held none l == some none
theorem held_append : ∀ (a b : List Ac) (h : Option Int), held h (a ++ b) = (held h a).bind fun g => held g b
  | [], b, h => rfl
  | x :: a, b, h => by
    show held h (x :: (a ++ b)) = _
    rw [held, held]
    by_cases h1 : x.1 = 1
    · rw [if_pos h1, if_pos h1]; rfl
    · rw [if_neg h1, if_neg h1]
      by_cases h0 : x.1 = 0
      · rw [if_pos h0, if_pos h0]
        by_cases hs : h.isSome = true
        · rw [if_pos hs, if_pos hs]; rfl
        · rw [if_neg hs, if_neg hs]; exact held_append a b _
      · rw [if_neg h0, if_neg h0]
        by_cases h2 : x.1 = 2
        · rw [if_pos h2, if_pos h2]
          by_cases hs : h = some x.2
          · rw [if_pos hs, if_pos hs]; exact held_append a b _
          · rw [if_neg hs, if_neg hs]; rfl
        · rw [if_neg h2, if_neg h2]; exact held_append a b _
theorem tidy_both {a b : List Ac} (h : tidyB a = true) : tidyB (a ++ b) = tidyB b := by
  unfold tidyB at h ⊢
  rw [held_append, eq_of_beq h]
  rfl
theorem tidy_more (a b : List Ac) (n : Int) : tidyB (a ++ (3, n) :: b) = tidyB (a ++ b) := by
  unfold tidyB
  rw [held_append, held_append]
  have : ∀ g, held g ((3, n) :: b) = held g b := fun g => by rw [held]; simp
  simp [this]
theorem tidy_open (a : List Ac) (n : Int) : tidyB (a ++ [(0, n)]) = false := by
  unfold tidyB
  rw [held_append]
  cases held none a with
  | none => rfl
  | some g =>
    show (held g [(0, n)] == some none) = false
    cases g <;> simp [held]
theorem tidy_shut {a : List Ac} (h : tidyB a = true) (n : Int) : tidyB (a ++ [(0, n), (2, n)]) = true := by
  rw [tidy_both h]
  simp [tidyB, held]
end P12
end Go.Proofs.YtocojdiapaeajaaDoor
