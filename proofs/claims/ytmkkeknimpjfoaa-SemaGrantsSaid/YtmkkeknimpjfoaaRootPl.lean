/-
  Tables that say the same: what hangs on what they say alone. Of no program.
-/
import Derived.Test.YtmkkeknimpjfoaaRootGet
namespace Go.Proofs.Ytmkkeknimpjfoaa
open Go.ChangeShapes Go.WideShapes Go.ChangeAt Go.RowKit
set_option linter.unusedVariables false

section
variable {l r L T : List SV} {x y s a b : SV}
theorem plq (h : x.pl = y.pl) : x.addr = y.addr ∧ x.cnt = y.cnt ∧ x.line = y.line := by simpa [SV.pl] using h
theorem SOk.pl (h : x.pl = y.pl) (hx : SOk x) : SOk y := by
  obtain ⟨h1, h2, h3⟩ := plq h
  unfold SOk at *
  rw [← h1, ← h2, ← h3]
  exact hx
theorem SNil.pl (h : x.pl = y.pl) : SNil x ↔ SNil y := by
  obtain ⟨h1, h2, h3⟩ := plq h
  unfold SNil
  rw [h2, h3]
theorem mem_pl (h : l.map SV.pl = r.map SV.pl) (hy : y ∈ r) : ∃ x ∈ l, x.pl = y.pl := by
  have : y.pl ∈ l.map SV.pl := by rw [h]; exact List.mem_map_of_mem hy
  exact List.mem_map.1 this
theorem filt_pl {p : Int → Bool} : ∀ {l r : List SV}, l.map SV.pl = r.map SV.pl → (l.filter fun x => p x.addr).map SV.pl = (r.filter fun x => p x.addr).map SV.pl
  | [], [], _ => rfl
  | [], y :: r, h => by simp at h
  | x :: l, [], h => by simp at h
  | x :: l, y :: r, h => by
    simp only [List.map_cons, List.cons.injEq] at h
    have ih := filt_pl (p := p) h.2
    have ha := (plq h.1).1
    by_cases hp : p x.addr = true
    · have hp' : p y.addr = true := ha ▸ hp
      simp only [List.filter_cons, hp, hp', if_true, List.map_cons, h.1, ih]
    · have hp' : ¬ p y.addr = true := ha ▸ hp
      simp only [List.filter_cons, hp, hp', Bool.false_eq_true, if_false, ih]
theorem len_pl (h : l.map SV.pl = r.map SV.pl) : l.length = r.length := by simpa using congrArg List.length h
theorem TOk.pl (h : l.map SV.pl = r.map SV.pl) (ht : TOk l) : TOk r := by
  refine ⟨fun y hy => ?_, ?_⟩
  · obtain ⟨x, hx, e⟩ := mem_pl h hy
    exact ⟨(ht.1 x hx).1.pl e, fun hc => (ht.1 x hx).2 ((SNil.pl e).2 hc)⟩
  · have h1 : (l.map SV.pl).Pairwise (fun u v => Lt u.1 v.1) := List.pairwise_map.2 ht.2
    rw [h] at h1
    exact (List.pairwise_map (R := fun (u v : Int × Int × List Int) => Lt u.1 v.1) (f := SV.pl)).1 h1
theorem Tab.pl (h : l.map SV.pl = r.map SV.pl) (ht : Tab l) : Tab r := ⟨by rw [← len_pl h]; exact ht.1, ht.2.pl h⟩
theorem has_pl (h : l.map SV.pl = r.map SV.pl) (a : Int) : Has l a ↔ Has r a := by
  constructor
  · rintro ⟨x, hx, e⟩
    obtain ⟨y, hy, e'⟩ := mem_pl h.symm hx
    exact ⟨y, hy, (plq e').1.trans e⟩
  · rintro ⟨x, hx, e⟩
    obtain ⟨y, hy, e'⟩ := mem_pl h hx
    exact ⟨y, hy, (plq e').1.trans e⟩
theorem und_pl (h : l.map SV.pl = r.map SV.pl) (n : Int) : und l n = und r n := by
  have h1 := filt_pl (p := fun q => decide (rt q = n)) h
  have h2 := congrArg (List.map fun u : Int × Int × List Int => u.1) h1
  rw [List.map_map, List.map_map] at h2
  exact h2
theorem setl_pl (h : l.map SV.pl = r.map SV.pl) (s : SV) : (setl l s).map SV.pl = (setl r s).map SV.pl := by
  unfold setl
  rw [List.map_append, List.map_append, List.map_append, List.map_append]
  have h1 : (front l s.addr).map SV.pl = (front r s.addr).map SV.pl := filt_pl (p := fun q => decide (Lt q s.addr)) h
  have h2 : (back l s.addr).map SV.pl = (back r s.addr).map SV.pl := filt_pl (p := fun q => decide (Lt s.addr q)) h
  rw [h1, h2]
theorem setl_comm (ht : TOk L) (ha : SOk a) (hb : SOk b) (hne : a.addr ≠ b.addr) : setl (setl L a) b = setl (setl L b) a := by
  refine tok_ext (setl_ok (setl_ok ht ha) hb) (setl_ok (setl_ok ht hb) ha) fun x => ?_
  simp only [mem_setl]
  constructor
  · rintro (⟨⟨h1, h2⟩ | ⟨h1, h2⟩, h3⟩ | ⟨h1, h2⟩)
    · exact .inl ⟨.inl ⟨h1, h3⟩, h2⟩
    · exact .inr ⟨h1, h2⟩
    · exact .inl ⟨.inr ⟨h1, h2⟩, by rw [h1]; exact fun e => hne e.symm⟩
  · rintro (⟨⟨h1, h2⟩ | ⟨h1, h2⟩, h3⟩ | ⟨h1, h2⟩)
    · exact .inl ⟨.inl ⟨h1, h3⟩, h2⟩
    · exact .inr ⟨h1, h2⟩
    · exact .inl ⟨.inr ⟨h1, h2⟩, by rw [h1]; exact hne⟩
/-- A table has one spot of an address. -/
theorem tok_one (h : TOk L) (hx : x ∈ L) (hy : y ∈ L) (e : x.addr = y.addr) : x = y := by
  obtain ⟨i, hi⟩ := List.mem_iff_getElem?.1 hx
  obtain ⟨j, hj⟩ := List.mem_iff_getElem?.1 hy
  rcases Nat.lt_trichotomy i j with h3 | h3 | h3
  · exact absurd (h.at_ h3 hi hj) (by rw [e]; exact fun h => h.irrefl)
  · subst h3; rw [hi] at hj; exact Option.some.inj hj
  · exact absurd (h.at_ h3 hj hi) (by rw [e]; exact fun h => h.irrefl)
theorem has_setl (ha : SOk a) : Has (setl L a) a.addr ↔ ¬ SNil a := by
  constructor
  · rintro ⟨x, hx, e⟩
    rcases mem_setl.1 hx with ⟨_, h⟩ | ⟨rfl, h⟩
    · exact absurd e h
    · exact h
  · intro h
    exact ⟨a, mem_setl.2 (.inr ⟨rfl, h⟩), rfl⟩
/-- What is set is got. -/
theorem get_set (ht : Tab L) (ha : SOk a) (hT : T.map SV.pl = (setl L a).map SV.pl) (h64 : (setl L a).length ≤ 64) {g : Int × Int × List Int} {e : Int} (hg : GetR T a.addr g e) : g = a.pl ∧ e = 0 := by
  have hTT : Tab T := Tab.pl hT.symm ⟨h64, setl_ok ht.2 ha⟩
  obtain ⟨_, _, he, hc⟩ := hg.resolve_left (fun h' => by rcases h'.1 with h1 | h1 <;> first | exact h1 ha.1 | exact h1 hTT)
  refine ⟨?_, he⟩
  rcases hc with ⟨x, hx, hxa, rfl⟩ | ⟨hno, rfl⟩
  · obtain ⟨y, hy, e'⟩ := mem_pl hT.symm hx
    rcases mem_setl.1 hy with ⟨_, h⟩ | ⟨rfl, h⟩
    · exact absurd ((plq e').1.trans hxa) h
    · exact e'.symm
  · have hn : SNil a := Classical.byContradiction fun hc => hno ((has_pl hT a.addr).2 ((has_setl ha).2 hc))
    unfold SV.pl
    rw [hn.1, hn.2]
/-- What every other address has is as it was. -/
theorem get_other (ht : Tab L) (ha : SOk a) (hT : T.map SV.pl = (setl L a).map SV.pl) (h64 : (setl L a).length ≤ 64) {q : Int} {g g' : Int × Int × List Int} {e e' : Int} (hg : GetR L q g e) (hg' : GetR T q g' e') : e = e' ∧ (q ≠ a.addr → g = g') := by
  have hTT : Tab T := Tab.pl hT.symm ⟨h64, setl_ok ht.2 ha⟩
  by_cases hk : IsKey q
  · obtain ⟨_, _, he, hc⟩ := hg.resolve_left (fun h' => by rcases h'.1 with h1 | h1 <;> first | exact h1 hk | exact h1 ht)
    obtain ⟨_, _, he', hc'⟩ := hg'.resolve_left (fun h' => by rcases h'.1 with h1 | h1 <;> first | exact h1 hk | exact h1 hTT)
    refine ⟨he.trans he'.symm, fun hne => ?_⟩
    rcases hc with ⟨x, hx, hxa, rfl⟩ | ⟨hno, rfl⟩
    · have hxs : x ∈ setl L a := mem_setl.2 (.inl ⟨hx, by rw [hxa]; exact hne⟩)
      rcases hc' with ⟨z, hz, hza, rfl⟩ | ⟨hno', _⟩
      · obtain ⟨y, hy, e2⟩ := mem_pl hT.symm hz
        have : y = x := tok_one (setl_ok ht.2 ha) hy hxs ((plq e2).1.trans (hza.trans hxa.symm))
        rw [← this, e2]
      · exact absurd ((has_pl hT q).2 ⟨x, hxs, hxa⟩) hno'
    · rcases hc' with ⟨z, hz, hza, rfl⟩ | ⟨_, rfl⟩
      · obtain ⟨y, hy, e2⟩ := mem_pl hT.symm hz
        rcases mem_setl.1 hy with ⟨h1, _⟩ | ⟨rfl, _⟩
        · exact absurd ⟨y, h1, (plq e2).1.trans hza⟩ hno
        · exact absurd (hza.symm.trans (plq e2).1.symm) hne
      · rfl
  · obtain ⟨_, rfl, rfl⟩ := hg.resolve_right (fun h' => hk h'.1)
    obtain ⟨_, rfl, rfl⟩ := hg'.resolve_right (fun h' => hk h'.1)
    exact ⟨rfl, fun _ => rfl⟩
end
end Go.Proofs.Ytmkkeknimpjfoaa
