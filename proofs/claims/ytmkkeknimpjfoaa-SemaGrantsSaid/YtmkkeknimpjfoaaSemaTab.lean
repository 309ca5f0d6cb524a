/-
  What a table is behind a change, in plain words: what each address has. No programs.
-/
import Derived.Test.YtmkkeknimpjfoaaSemaMath
namespace Go.Proofs.Ytmkkeknimpjfoaa
open Go.ChangeShapes Go.WideShapes Go.ChangeAt Go.RowKit
set_option linter.unusedVariables false
set_option linter.unusedSimpArgs false

/-- A table with one address's spot set: it may be, that address has what was set, and each other one what it had. -/
structure Stp (L : List SV) (a q : Int) (l : List Int) (T : List SV) : Prop where
  tab : Tab T
  got : gt T a = (q, l)
  other : ∀ b, b ≠ a → gt T b = gt L b
section
variable {L T : List SV} {a q who x e : Int} {l : List Int} {first is : Bool} {Q : List (Int × Int × List Int)}
theorem stp (ht : Tab L) (hs : SOk (sp a q l)) (h64 : (setl L (sp a q l)).length ≤ 64) (hp : T.map SV.pl = (setl L (sp a q l)).map SV.pl) : Stp L a q l T := by
  have hok := setl_ok ht.2 hs
  refine ⟨Tab.pl hp.symm ⟨h64, hok⟩, ?_, fun b hb => ?_⟩
  · rw [← gt_pl hok hp.symm]; exact gt_set ht.2 hs
  · rw [← gt_pl hok hp.symm]; exact gt_other ht.2 hs hb
/-- What asking for a grant answers, in plain words. -/
theorem AcqR.plain (h : AcqR L a who first (T.map SV.pl) is e) :
    (e ≠ 0 ∧ is = false ∧ T = [] ∧ (e = 7 ↔ (Tab L ∧ IsKey a ∧ 0 ≤ who ∧ who ∈ (gt L a).2))) ∨
    (e = 0 ∧ Tab L ∧ IsKey a ∧ 0 ≤ who ∧ who ∉ (gt L a).2 ∧ ((0 < (gt L a).1 ∧ is = true ∧ Stp L a ((gt L a).1 - 1) (gt L a).2 T) ∨ ((gt L a).1 = 0 ∧ (gt L a).2.length < 64 ∧ is = false ∧ Stp L a 0 (psh first (gt L a).2 who) T))) := by
  rcases h with ⟨h, hT, rfl, rfl⟩ | ⟨ht, hk, h0, h⟩
  · refine .inl ⟨by decide, rfl, List.map_eq_nil_iff.1 hT, fun hc => absurd hc (by decide), fun ⟨h1, h2, h3, _⟩ => ?_⟩
    rcases h with h | h | h
    · exact absurd h1 h
    · exact absurd h2 h
    · omega
  · obtain ⟨k1, k2, k3, k4⟩ := gt_cnt ht.2 hk
    rcases h with ⟨hm, hT, rfl, rfl⟩ | ⟨hm, hc, hT, rfl, rfl⟩ | ⟨hm, hc, hl, hT, rfl, rfl⟩ | ⟨hm, hc, hl, hs, hT, rfl, rfl⟩ | ⟨hm, hc, hl, hs, hT, rfl, rfl⟩
    · exact .inl ⟨by decide, rfl, List.map_eq_nil_iff.1 hT, fun _ => ⟨ht, hk, h0, hm⟩, fun _ => rfl⟩
    · have hh : Has L a := (gt_has ht.2).2 fun e => by rw [e] at hc; simp at hc
      have hok : SOk (sp a ((gt L a).1 - 1) (gt L a).2) := ⟨hk, by show 0 ≤ (gt L a).1 - 1; omega, by show (gt L a).1 - 1 ≤ 2147483647; omega, k3, .inr (k4.resolve_left (by omega))⟩
      exact .inr ⟨rfl, ht, hk, h0, hm, .inl ⟨hc, rfl, stp ht hok (Nat.le_trans (setl_len ht.2 (.inl hh)) ht.1) hT⟩⟩
    · exact .inl ⟨by decide, rfl, List.map_eq_nil_iff.1 hT, fun hc => absurd hc (by decide), fun ⟨_, _, _, h⟩ => absurd h hm⟩
    · exact .inl ⟨by decide, rfl, List.map_eq_nil_iff.1 hT, fun hc => absurd hc (by decide), fun ⟨_, _, _, h⟩ => absurd h hm⟩
    · have hok : SOk (sp a 0 (psh first (gt L a).2 who)) := ⟨hk, Int.le_refl _, (by decide : (0 : Int) ≤ 2147483647), psh_ok k3 h0 hm hl, .inl rfl⟩
      exact .inr ⟨rfl, ht, hk, h0, hm, .inr ⟨hc, hl, rfl, stp ht hok hs hT⟩⟩
/-- What giving one answers, in plain words. -/
theorem RelR.plain (h : RelR L a (T.map SV.pl) x e) :
    (e ≠ 0 ∧ x = 0 ∧ T = []) ∨
    (e = 0 ∧ Tab L ∧ IsKey a ∧ ((∃ r, (gt L a).1 = 0 ∧ (gt L a).2 = x :: r ∧ Stp L a 0 r T) ∨ ((gt L a).2 = [] ∧ (gt L a).1 < 2147483647 ∧ x = -1 ∧ Stp L a ((gt L a).1 + 1) [] T))) := by
  rcases h with ⟨h, hT, rfl, rfl⟩ | ⟨ht, hk, h⟩
  · exact .inl ⟨by decide, rfl, List.map_eq_nil_iff.1 hT⟩
  · obtain ⟨k1, k2, k3, k4⟩ := gt_cnt ht.2 hk
    rcases h with ⟨r, hl, hT, rfl⟩ | ⟨hl, hc, hT, rfl, rfl⟩ | ⟨hl, hc, hs, hT, rfl, rfl⟩ | ⟨hl, hc, hs, hT, rfl, rfl⟩
    · have hh : Has L a := (gt_has ht.2).2 fun e => by rw [e] at hl; simp at hl
      have hr : L7.Ln r := by
        rw [hl] at k3
        exact ⟨by have := k3.1; simp at this; omega, (L7.good_cons.1 k3.2).2.2⟩
      have hok : SOk (sp a 0 r) := ⟨hk, Int.le_refl _, (by decide : (0 : Int) ≤ 2147483647), hr, .inl rfl⟩
      exact .inr ⟨rfl, ht, hk, .inl ⟨r, k4.resolve_right (by rw [hl]; simp), hl, stp ht hok (Nat.le_trans (setl_len ht.2 (.inl hh)) ht.1) hT⟩⟩
    · exact .inl ⟨by decide, rfl, List.map_eq_nil_iff.1 hT⟩
    · exact .inl ⟨by decide, rfl, List.map_eq_nil_iff.1 hT⟩
    · have hok : SOk (sp a ((gt L a).1 + 1) []) := ⟨hk, by show 0 ≤ (gt L a).1 + 1; omega, by show (gt L a).1 + 1 ≤ 2147483647; omega, L7.Ln.nil, .inr rfl⟩
      exact .inr ⟨rfl, ht, hk, .inr ⟨hl, hc, rfl, stp ht hok hs hT⟩⟩
/-- Who may come does, where a spot is there already, or where the table has room. -/
theorem AcqR.must (h : AcqR L a who first (T.map SV.pl) is e) (ht : Tab L) (hk : IsKey a) (h0 : 0 ≤ who) (hn : who ∉ (gt L a).2) (hl : (gt L a).2.length < 64) (hroom : Has L a ∨ L.length < 64) : e = 0 := by
  rcases h with ⟨h, _⟩ | ⟨_, _, _, h⟩
  · rcases h with h | h | h
    · exact absurd ht h
    · exact absurd hk h
    · omega
  · rcases h with ⟨hm, _⟩ | ⟨_, _, _, _, h⟩ | ⟨_, _, h64, _⟩ | ⟨_, _, _, hs, _⟩ | ⟨_, _, _, _, _, _, h⟩
    · exact absurd hm hn
    · exact h
    · omega
    · exfalso
      rcases hroom with hh | hlt
      · have := setl_len (s := sp a 0 (psh first (gt L a).2 who)) ht.2 (.inl hh)
        have := ht.1
        omega
      · have := setl_more (s := sp a 0 (psh first (gt L a).2 who)) ht.2
        omega
    · exact h
theorem RelR.must (h : RelR L a (T.map SV.pl) x e) (ht : Tab L) (hk : IsKey a) (hc : (gt L a).1 < 2147483647) (hroom : Has L a ∨ L.length < 64) : e = 0 := by
  rcases h with ⟨h, _⟩ | ⟨_, _, h⟩
  · rcases h with h | h
    · exact absurd ht h
    · exact absurd hk h
  · rcases h with ⟨_, _, _, h⟩ | ⟨_, hc', _⟩ | ⟨_, _, hs, _⟩ | ⟨_, _, _, _, _, h⟩
    · exact h
    · omega
    · exfalso
      rcases hroom with hh | hlt
      · have := setl_len (s := sp a ((gt L a).1 + 1) []) ht.2 (.inl hh)
        have := ht.1
        omega
      · have := setl_more (s := sp a ((gt L a).1 + 1) []) ht.2
        omega
    · exact h
end
end Go.Proofs.Ytmkkeknimpjfoaa
