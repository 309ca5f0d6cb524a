/-
  Package sema: Acquire, Release, Queued: whatever they answer, said behind the call.
-/
import Derived.Test.YtmkkeknimpjfoaaSemaAlive
namespace Go.Proofs.Ytmkkeknimpjfoaa
open Go.ChangeShapes Go.WideShapes Go.ChangeAt Go.RowKit
set_option maxRecDepth 100000
set_option linter.unusedVariables false
set_option linter.unusedSimpArgs false

section
variable {w : World} {A : Option Addr} {n c : Nat} {L : List SV} {a who : Int} {first : Bool}
theorem Acquire_any (hm : SMem w A n L) (hnc : n ≤ c) (hcm : c ≤ 9223372036854775807) (ha : B64 a) (hw : B64 who) :
    Calls Try.prog 8 #[.slice A n c, .int .i64 a, .int .i64 who, .bool first] w fun ee w' => ∃ B m N is e, ee = .returned (.tuple #[.slice B N m, .bool is, .int .i64 e]) ∧
      ∃ T : List SV, T.length = N ∧ SMem w' B N T ∧ N ≤ m ∧ m ≤ 9223372036854775807 ∧ AcqR L a who first (T.map SV.pl) is e ∧ Gr w w' := by
  obtain ⟨Q, is, e, h⟩ := AcqR.any L a who first
  refine (Acquire_is hm hnc hcm ha hw h).mono ?_
  rintro ee w' ⟨B, m, T, rfl, h1, h2, h3, h4, h5⟩
  exact ⟨B, m, T.length, is, e, rfl, T, rfl, h1, h2, h3, h4 ▸ h, h5⟩
theorem Release_any (hm : SMem w A n L) (hnc : n ≤ c) (hcm : c ≤ 9223372036854775807) (ha : B64 a) :
    Calls Try.prog 9 #[.slice A n c, .int .i64 a] w fun ee w' => ∃ B m N x e, ee = .returned (.tuple #[.slice B N m, .int .i64 x, .int .i64 e]) ∧
      ∃ T : List SV, T.length = N ∧ SMem w' B N T ∧ N ≤ m ∧ m ≤ 9223372036854775807 ∧ RelR L a (T.map SV.pl) x e ∧ Gr w w' := by
  obtain ⟨Q, x, e, h⟩ := RelR.any L a
  refine (Release_is hm hnc hcm ha h).mono ?_
  rintro ee w' ⟨B, m, T, rfl, h1, h2, h3, h4, h5⟩
  exact ⟨B, m, T.length, x, e, rfl, T, rfl, h1, h2, h3, h4 ▸ h, h5⟩
theorem RelR.queued {T : List SV} {x e : Int} (h : RelR L a (T.map SV.pl) x e) (he : e = 0) (hx : x ≠ -1) : qd L x = qd T x + 1 ∧ 0 ≤ x := by
  rcases h with ⟨_, _, _, h⟩ | ⟨ht, hk, h⟩
  · omega
  · obtain ⟨k1, k2, k3, k4⟩ := gt_cnt ht.2 hk
    rcases h with ⟨r, hl, hT, _⟩ | ⟨_, _, _, _, h⟩ | ⟨_, _, _, _, _, h⟩ | ⟨_, _, _, _, h, _⟩
    · rw [qd_pl hT]
      rw [hl] at k3
      exact ⟨qd_set ht.2 hl rfl rfl, (L7.good_cons.1 k3.2).1⟩
    · omega
    · omega
    · exact absurd h hx
end
end Go.Proofs.Ytmkkeknimpjfoaa
