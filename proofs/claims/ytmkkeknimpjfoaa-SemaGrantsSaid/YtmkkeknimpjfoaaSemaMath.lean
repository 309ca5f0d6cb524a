/-
  What an address has in a table; what asking for a grant, and giving one, make of it. No programs.
-/
import Derived.Test.YtmkkeknimpjfoaaRootPl
import Derived.Test.YtmkkeknimpjfoaaSemaLine
namespace Go.Proofs.Ytmkkeknimpjfoaa
open Go.ChangeShapes Go.WideShapes Go.ChangeAt Go.RowKit
set_option linter.unusedVariables false
set_option linter.unusedSimpArgs false

/-- A spot by what it says alone. -/
def sp (a q : Int) (l : List Int) : SV := ⟨a, q, none, 0, 0, l⟩
theorem sp_pl (a q : Int) (l : List Int) : (sp a q l).pl = (a, q, l) := rfl
/-- What an address has: how many grants, and who waits. -/
def gt (L : List SV) (a : Int) : Int × List Int := match L.find? (fun x => decide (x.addr = a)) with
  | some x => (x.cnt, x.line)
  | none => (0, [])
section
variable {L T R : List SV} {x y s : SV} {a b q : Int} {l : List Int}
theorem gt_mem (h : TOk L) (hx : x ∈ L) : gt L x.addr = (x.cnt, x.line) := by
  unfold gt
  cases hf : L.find? (fun y => decide (y.addr = x.addr)) with
  | none =>
    rw [List.find?_eq_none] at hf
    exact absurd (by simp) (hf x hx)
  | some y =>
    have h1 := List.find?_some hf
    have h2 := List.mem_of_find?_eq_some hf
    rw [decide_eq_true_eq] at h1
    rw [tok_one h h2 hx h1]
theorem gt_no (h : ¬ Has L a) : gt L a = (0, []) := by
  unfold gt
  cases hf : L.find? (fun y => decide (y.addr = a)) with
  | none => rfl
  | some y =>
    have h1 := List.find?_some hf
    rw [decide_eq_true_eq] at h1
    exact absurd ⟨y, List.mem_of_find?_eq_some hf, h1⟩ h
theorem gt_nil : gt [] a = (0, []) := rfl
/-- It has something just if it has a spot. -/
theorem gt_has (h : TOk L) : Has L a ↔ gt L a ≠ (0, []) := by
  constructor
  · rintro ⟨x, hx, rfl⟩
    rw [gt_mem h hx]
    intro e
    rw [Prod.mk.injEq] at e
    exact (h.1 x hx).2 e
  · intro hn
    exact Classical.byContradiction fun hc => hn (gt_no hc)
theorem gt_ok (h : TOk L) (ha : IsKey a) : SOk (sp a (gt L a).1 (gt L a).2) := by
  by_cases hh : Has L a
  · obtain ⟨x, hx, rfl⟩ := hh
    rw [gt_mem h hx]
    exact (h.1 x hx).1
  · rw [gt_no hh]
    exact ⟨ha, Int.le_refl _, (by decide : (0 : Int) ≤ 2147483647), L7.Ln.nil, .inl rfl⟩
theorem gt_pl (hl : TOk L) (h : L.map SV.pl = T.map SV.pl) (a : Int) : gt L a = gt T a := by
  have ht : TOk T := hl.pl h
  by_cases hh : Has L a
  · obtain ⟨x, hx, rfl⟩ := hh
    obtain ⟨y, hy, e⟩ := mem_pl h.symm hx
    obtain ⟨e1, e2, e3⟩ := plq e
    rw [gt_mem hl hx, ← e1, gt_mem ht hy, e2, e3]
  · rw [gt_no hh, gt_no (fun hc => hh ((has_pl h a).2 hc))]
/-- A table is what its addresses have. -/
theorem gt_ext (hl : TOk L) (ht : TOk T) (h : ∀ a, gt L a = gt T a) : L.map SV.pl = T.map SV.pl := by
  have hc : ∀ {M : List SV}, TOk M → TOk (M.map fun x => sp x.addr x.cnt x.line) := fun {M} hm => hm.pl (by rw [List.map_map]; rfl)
  have e1 : L.map SV.pl = (L.map fun x => sp x.addr x.cnt x.line).map SV.pl := by rw [List.map_map]; rfl
  have e2 : T.map SV.pl = (T.map fun x => sp x.addr x.cnt x.line).map SV.pl := by rw [List.map_map]; rfl
  have key : ∀ {M N : List SV}, TOk M → TOk N → (∀ a, gt M a = gt N a) → ∀ x ∈ M.map (fun x => sp x.addr x.cnt x.line), x ∈ N.map (fun x => sp x.addr x.cnt x.line) := by
    intro M N hM hN hMN x hx
    obtain ⟨y, hy, rfl⟩ := List.mem_map.1 hx
    have h1 : Has N y.addr := (gt_has hN).2 (by rw [← hMN]; exact (gt_has hM).1 ⟨y, hy, rfl⟩)
    obtain ⟨z, hz, hza⟩ := h1
    have h2 := hMN y.addr
    rw [gt_mem hM hy, ← hza, gt_mem hN hz, Prod.mk.injEq] at h2
    exact List.mem_map.2 ⟨z, hz, by rw [hza, ← h2.1, ← h2.2]⟩
  rw [e1, e2, tok_ext (hc hl) (hc ht) fun x => ⟨key hl ht h x, key ht hl (fun a => (h a).symm) x⟩]
theorem gt_set (ht : TOk L) (hs : SOk s) : gt (setl L s) s.addr = (s.cnt, s.line) := by
  by_cases hn : SNil s
  · rw [gt_no (fun hc => (has_setl hs).1 hc hn), hn.1, hn.2]
  · exact gt_mem (setl_ok ht hs) (mem_setl.2 (.inr ⟨rfl, hn⟩))
theorem gt_other (ht : TOk L) (hs : SOk s) (hb : b ≠ s.addr) : gt (setl L s) b = gt L b := by
  by_cases hh : Has L b
  · obtain ⟨x, hx, rfl⟩ := hh
    rw [gt_mem ht hx, gt_mem (setl_ok ht hs) (mem_setl.2 (.inl ⟨hx, hb⟩))]
  · rw [gt_no hh, gt_no]
    rintro ⟨x, hx, e⟩
    rcases mem_setl.1 hx with ⟨h1, _⟩ | ⟨rfl, _⟩
    · exact hh ⟨x, h1, e⟩
    · exact hb e.symm
/-- A table's spots by an address: those ahead, its own, those behind. -/
theorem tok_parts (h : TOk L) (a : Int) : L = front L a ++ (L.filter (fun x => decide (x.addr = a)) ++ back L a) := by
  refine tok_ext h ⟨fun x hx => ?_, ?_⟩ fun x => ?_
  · unfold front back at hx
    simp only [List.mem_append, List.mem_filter] at hx
    rcases hx with ⟨h1, _⟩ | ⟨h1, _⟩ | ⟨h1, _⟩ <;> exact h.1 x h1
  · unfold front back
    rw [List.pairwise_append, List.pairwise_append]
    refine ⟨h.2.sublist List.filter_sublist, ⟨h.2.sublist List.filter_sublist, h.2.sublist List.filter_sublist, fun u hu v hv => ?_⟩, fun u hu v hv => ?_⟩
    · rw [List.mem_filter, decide_eq_true_eq] at hu hv
      rw [hu.2]; exact hv.2
    · simp only [List.mem_append, List.mem_filter, decide_eq_true_eq] at hu hv
      rcases hv with ⟨_, hv⟩ | ⟨_, hv⟩
      · rw [hv]; exact hu.2
      · exact hu.2.trans hv
  · unfold front back
    simp only [List.mem_append, List.mem_filter, decide_eq_true_eq]
    constructor
    · intro hx
      rcases Lt.tri x.addr a with h1 | h1 | h1
      · exact .inl ⟨hx, h1⟩
      · exact .inr (.inl ⟨hx, h1⟩)
      · exact .inr (.inr ⟨hx, h1⟩)
    · rintro (⟨hx, _⟩ | ⟨hx, _⟩ | ⟨hx, _⟩) <;> exact hx
/-- Where an address has a spot already, or the new one is empty, a table grows by none. -/
theorem setl_len (h : TOk L) (hs : Has L s.addr ∨ SNil s) : (setl L s).length ≤ L.length := by
  have e := congrArg List.length (tok_parts h s.addr)
  rw [List.length_append, List.length_append] at e
  unfold setl
  rw [List.length_append, List.length_append]
  rcases hs with ⟨x, hx, hxa⟩ | hn
  · have h1 : 0 < (L.filter (fun x => decide (x.addr = s.addr))).length := List.length_pos_of_mem (List.mem_filter.2 ⟨hx, by simpa using hxa⟩)
    split <;> simp <;> omega
  · rw [if_pos hn]
    simp; omega
/-- A table grows by one at most. -/
theorem setl_more (h : TOk L) : (setl L s).length ≤ L.length + 1 := by
  have e := congrArg List.length (tok_parts h s.addr)
  rw [List.length_append, List.length_append] at e
  unfold setl
  rw [List.length_append, List.length_append]
  split <;> simp <;> omega
theorem filter_one (h : TOk L) (hx : x ∈ L) : L.filter (fun y => decide (y.addr = x.addr)) = [x] := by
  refine tok_ext ⟨fun y hy => h.1 y (List.mem_filter.1 hy).1, h.2.sublist List.filter_sublist⟩ ⟨fun y hy => ?_, List.pairwise_singleton _ _⟩ fun y => ?_
  · rw [List.mem_singleton] at hy; subst hy; exact h.1 y hx
  · rw [List.mem_filter, decide_eq_true_eq, List.mem_singleton]
    exact ⟨fun ⟨h1, h2⟩ => tok_one h h1 hx h2, fun e => by subst e; exact ⟨hx, rfl⟩⟩
/-- In how many lines somebody waits. -/
def qd (L : List SV) (who : Int) : Nat := (L.filter fun x => decide (who ∈ x.line)).length
theorem qd_app (L T : List SV) (who : Int) : qd (L ++ T) who = qd L who + qd T who := by unfold qd; rw [List.filter_append, List.length_append]
theorem qd_le (L : List SV) (who : Int) : qd L who ≤ L.length := List.length_filter_le _ _
theorem qd_pl (h : L.map SV.pl = T.map SV.pl) (who : Int) : qd L who = qd T who := by
  have key : ∀ M : List SV, qd M who = ((M.map SV.pl).filter fun u => decide (who ∈ u.2.2)).length := fun M => by
    unfold qd
    rw [List.filter_map, List.length_map]
    rfl
  rw [key, key, h]
theorem qd_snoc_hit {who : Int} (h : who ∈ x.line) : qd (L ++ [x]) who = qd L who + 1 := by rw [qd_app]; simp [qd, h]
theorem qd_snoc_miss {who : Int} (h : who ∉ x.line) : qd (L ++ [x]) who = qd L who := by rw [qd_app]; simp [qd, h]
/-- Who is let out of a line waits in one line less. -/
theorem qd_set (h : TOk L) {who : Int} {r : List Int} (hg : (gt L a).2 = who :: r) (hs : s.addr = a) (hs2 : s.line = r) : qd L who = qd (setl L s) who + 1 := by
  have hh : Has L a := Classical.byContradiction fun hc => by rw [gt_no hc] at hg; cases hg
  obtain ⟨x, hx, rfl⟩ := hh
  rw [gt_mem h hx] at hg
  have hl : x.line = who :: r := hg
  have hnd := ((h.1 x hx).1.2.2.2.1).2
  rw [hl, L7.good_cons] at hnd
  have e := congrArg (fun M => qd M who) (tok_parts h x.addr)
  simp only [qd_app] at e
  rw [filter_one h hx] at e
  have e1 : qd [x] who = 1 := by simp [qd, hl]
  have e2 : qd (if SNil s then [] else [s]) who = 0 := by
    split
    · rfl
    · simp [qd, hs2, hnd.2.1]
  unfold setl
  rw [qd_app, qd_app, e2, hs]
  omega
/-- How the line is behind one more who comes. -/
def psh (first : Bool) (l : List Int) (who : Int) : List Int := if first = true then who :: l else l ++ [who]
theorem psh_len {first : Bool} {who : Int} : (psh first l who).length = l.length + 1 := by unfold psh; split <;> simp
theorem psh_ne {first : Bool} {who : Int} : psh first l who ≠ [] := fun h => by have := congrArg List.length h; rw [psh_len] at this; simp at this
theorem psh_ok {first : Bool} {who : Int} (hl : L7.Ln l) (h0 : 0 ≤ who) (hn : who ∉ l) (h64 : l.length < 64) : L7.Ln (psh first l who) := by
  refine ⟨by rw [psh_len]; omega, ?_⟩
  unfold psh
  split
  · exact L7.good_cons.2 ⟨h0, hn, hl.2⟩
  · exact L7.good_app.2 ⟨hl.2, L7.good_one.2 h0, fun x hx h => by rw [List.mem_singleton] at h; subst h; exact hn hx⟩
theorem setR_pl {s' : SV} (h : s.pl = s'.pl) {Q : List (Int × Int × List Int)} {e : Int} (hs : SetR L s Q e) : SetR L s' Q e := by
  obtain ⟨h1, h2, h3⟩ := plq h
  have hok : SOk s ↔ SOk s' := ⟨fun k => k.pl h, fun k => k.pl h.symm⟩
  have hn : SNil s ↔ SNil s' := SNil.pl h
  have hm : (setl L s).map SV.pl = (setl L s').map SV.pl := by
    unfold setl
    rw [h1]
    by_cases c : SNil s
    · rw [if_pos c, if_pos (hn.1 c)]
    · rw [if_neg c, if_neg (fun k => c (hn.2 k))]
      simp [h]
  have hl : (setl L s).length = (setl L s').length := len_pl hm
  unfold SetR at *
  rw [← hok, ← hl, ← hm]
  exact hs
/-- What asking for a grant answers. -/
def AcqR (L : List SV) (a who : Int) (first : Bool) (Q : List (Int × Int × List Int)) (is : Bool) (e : Int) : Prop :=
  ((¬ Tab L ∨ ¬ IsKey a ∨ who < 0) ∧ Q = [] ∧ is = false ∧ e = 1) ∨
  (Tab L ∧ IsKey a ∧ 0 ≤ who ∧ (
    (who ∈ (gt L a).2 ∧ Q = [] ∧ is = false ∧ e = 7) ∨
    (who ∉ (gt L a).2 ∧ 0 < (gt L a).1 ∧ Q = (setl L (sp a ((gt L a).1 - 1) (gt L a).2)).map SV.pl ∧ is = true ∧ e = 0) ∨
    (who ∉ (gt L a).2 ∧ (gt L a).1 = 0 ∧ (gt L a).2.length = 64 ∧ Q = [] ∧ is = false ∧ e = 5) ∨
    (who ∉ (gt L a).2 ∧ (gt L a).1 = 0 ∧ (gt L a).2.length < 64 ∧ 64 < (setl L (sp a 0 (psh first (gt L a).2 who))).length ∧ Q = [] ∧ is = false ∧ e = 5) ∨
    (who ∉ (gt L a).2 ∧ (gt L a).1 = 0 ∧ (gt L a).2.length < 64 ∧ (setl L (sp a 0 (psh first (gt L a).2 who))).length ≤ 64 ∧ Q = (setl L (sp a 0 (psh first (gt L a).2 who))).map SV.pl ∧ is = false ∧ e = 0)))
/-- What giving one answers. -/
def RelR (L : List SV) (a : Int) (Q : List (Int × Int × List Int)) (x e : Int) : Prop :=
  ((¬ Tab L ∨ ¬ IsKey a) ∧ Q = [] ∧ x = 0 ∧ e = 1) ∨
  (Tab L ∧ IsKey a ∧ (
    (∃ r, (gt L a).2 = x :: r ∧ Q = (setl L (sp a 0 r)).map SV.pl ∧ e = 0) ∨
    ((gt L a).2 = [] ∧ (gt L a).1 = 2147483647 ∧ Q = [] ∧ x = 0 ∧ e = 10) ∨
    ((gt L a).2 = [] ∧ (gt L a).1 < 2147483647 ∧ 64 < (setl L (sp a ((gt L a).1 + 1) [])).length ∧ Q = [] ∧ x = 0 ∧ e = 5) ∨
    ((gt L a).2 = [] ∧ (gt L a).1 < 2147483647 ∧ (setl L (sp a ((gt L a).1 + 1) [])).length ≤ 64 ∧ Q = (setl L (sp a ((gt L a).1 + 1) [])).map SV.pl ∧ x = -1 ∧ e = 0)))
theorem gt_cnt (h : TOk L) (ha : IsKey a) : 0 ≤ (gt L a).1 ∧ (gt L a).1 ≤ 2147483647 ∧ L7.Ln (gt L a).2 ∧ ((gt L a).1 = 0 ∨ (gt L a).2 = []) := (gt_ok h ha).2
theorem AcqR.any (L : List SV) (a who : Int) (first : Bool) : ∃ Q is e, AcqR L a who first Q is e := by
  by_cases h : Tab L ∧ IsKey a ∧ 0 ≤ who
  · obtain ⟨h1, h2, h3⟩ := h
    obtain ⟨k1, k2, k3, k4⟩ := gt_cnt h1.2 h2
    by_cases hm : who ∈ (gt L a).2
    · exact ⟨_, _, _, .inr ⟨h1, h2, h3, .inl ⟨hm, rfl, rfl, rfl⟩⟩⟩
    · by_cases hc : 0 < (gt L a).1
      · exact ⟨_, _, _, .inr ⟨h1, h2, h3, .inr (.inl ⟨hm, hc, rfl, rfl, rfl⟩)⟩⟩
      · have hc0 : (gt L a).1 = 0 := by omega
        by_cases hl : (gt L a).2.length = 64
        · exact ⟨_, _, _, .inr ⟨h1, h2, h3, .inr (.inr (.inl ⟨hm, hc0, hl, rfl, rfl, rfl⟩))⟩⟩
        · have hl' : (gt L a).2.length < 64 := by have := k3.1; omega
          by_cases hs : 64 < (setl L (sp a 0 (psh first (gt L a).2 who))).length
          · exact ⟨_, _, _, .inr ⟨h1, h2, h3, .inr (.inr (.inr (.inl ⟨hm, hc0, hl', hs, rfl, rfl, rfl⟩)))⟩⟩
          · exact ⟨_, _, _, .inr ⟨h1, h2, h3, .inr (.inr (.inr (.inr ⟨hm, hc0, hl', by omega, rfl, rfl, rfl⟩)))⟩⟩
  · refine ⟨_, _, _, .inl ⟨?_, rfl, rfl, rfl⟩⟩
    by_cases h1 : Tab L
    · by_cases h2 : IsKey a
      · exact .inr (.inr (by have : ¬ 0 ≤ who := fun h3 => h ⟨h1, h2, h3⟩; omega))
      · exact .inr (.inl h2)
    · exact .inl h1
theorem RelR.any (L : List SV) (a : Int) : ∃ Q x e, RelR L a Q x e := by
  by_cases h : Tab L ∧ IsKey a
  · obtain ⟨h1, h2⟩ := h
    obtain ⟨k1, k2, k3, k4⟩ := gt_cnt h1.2 h2
    cases hl : (gt L a).2 with
    | cons y r => exact ⟨_, _, _, .inr ⟨h1, h2, .inl ⟨r, hl, rfl, rfl⟩⟩⟩
    | nil =>
      by_cases hc : (gt L a).1 = 2147483647
      · exact ⟨_, _, _, .inr ⟨h1, h2, .inr (.inl ⟨hl, hc, rfl, rfl, rfl⟩)⟩⟩
      · have hc' : (gt L a).1 < 2147483647 := by omega
        by_cases hs : 64 < (setl L (sp a ((gt L a).1 + 1) [])).length
        · exact ⟨_, _, _, .inr ⟨h1, h2, .inr (.inr (.inl ⟨hl, hc', hs, rfl, rfl, rfl⟩))⟩⟩
        · exact ⟨_, _, _, .inr ⟨h1, h2, .inr (.inr (.inr ⟨hl, hc', by omega, rfl, rfl, rfl⟩))⟩⟩
  · refine ⟨_, _, _, .inl ⟨?_, rfl, rfl, rfl⟩⟩
    by_cases h1 : Tab L
    · exact .inr fun h2 => h ⟨h1, h2⟩
    · exact .inl h1
end
end Go.Proofs.Ytmkkeknimpjfoaa
