/-
  Package sema: Acquire, Release, Queued: whatever they answer, said behind the call.
-/
import Derived.Test.YtmkkeknimpjfoaaSemaAlive
namespace Go.Proofs.Ytmkkeknimpjfoaa
open Go.ChangeShapes Go.WideShapes Go.ChangeAt Go.RowKit
set_option maxRecDepth 100000
set_option linter.unusedVariables false
set_option linter.unusedSimpArgs false

section
variable {w : World} {A : Option Addr} {n c : Nat} {L : List SV} {a who : Int} {first : Bool}
theorem Acquire_own (hm : SMem w A n L) (hnc : n ≤ c) (hcm : c ≤ 9223372036854775807) (ha : B64 a) (hw : B64 who) :
    Calls Try.prog 8 #[.slice A n c, .int .i64 a, .int .i64 who, .bool first] w fun ee w' => ∃ B m N is e, ee = .returned (.tuple #[.slice B N m, .bool is, .int .i64 e]) ∧
      ∃ T : List SV, T.length = N ∧ SMem w' B N T ∧ N ≤ m ∧ m ≤ 9223372036854775807 ∧ AcqR L a who first (T.map SV.pl) is e ∧ Gr w w' ∧ SOwn w' w.heap.size (.slice B N m) T := by
  obtain ⟨Q, is, e, h⟩ := AcqR.any L a who first
  refine (Acquire_is hm hnc hcm ha hw h).mono ?_
  rintro ee w' ⟨B, m, T, rfl, h1, h2, h3, h4, h5, h6⟩
  exact ⟨B, m, T.length, is, e, rfl, T, rfl, h1, h2, h3, h4 ▸ h, h5, h6⟩
theorem Release_own (hm : SMem w A n L) (hnc : n ≤ c) (hcm : c ≤ 9223372036854775807) (ha : B64 a) :
    Calls Try.prog 9 #[.slice A n c, .int .i64 a] w fun ee w' => ∃ B m N x e, ee = .returned (.tuple #[.slice B N m, .int .i64 x, .int .i64 e]) ∧
      ∃ T : List SV, T.length = N ∧ SMem w' B N T ∧ N ≤ m ∧ m ≤ 9223372036854775807 ∧ RelR L a (T.map SV.pl) x e ∧ Gr w w' ∧ SOwn w' w.heap.size (.slice B N m) T := by
  obtain ⟨Q, x, e, h⟩ := RelR.any L a
  refine (Release_is hm hnc hcm ha h).mono ?_
  rintro ee w' ⟨B, m, T, rfl, h1, h2, h3, h4, h5, h6⟩
  exact ⟨B, m, T.length, x, e, rfl, T, rfl, h1, h2, h3, h4 ▸ h, h5, h6⟩
theorem Acquire_any (hm : SMem w A n L) (hnc : n ≤ c) (hcm : c ≤ 9223372036854775807) (ha : B64 a) (hw : B64 who) :
    Calls Try.prog 8 #[.slice A n c, .int .i64 a, .int .i64 who, .bool first] w fun ee w' => ∃ B m N is e, ee = .returned (.tuple #[.slice B N m, .bool is, .int .i64 e]) ∧
      ∃ T : List SV, T.length = N ∧ SMem w' B N T ∧ N ≤ m ∧ m ≤ 9223372036854775807 ∧ AcqR L a who first (T.map SV.pl) is e ∧ Gr w w' := by
  refine (Acquire_own hm hnc hcm ha hw).mono ?_
  rintro ee w' ⟨B, m, N, is, e, rfl, T, h0, h1, h2, h3, h4, h5, _⟩
  exact ⟨B, m, N, is, e, rfl, T, h0, h1, h2, h3, h4, h5⟩
theorem Release_any (hm : SMem w A n L) (hnc : n ≤ c) (hcm : c ≤ 9223372036854775807) (ha : B64 a) :
    Calls Try.prog 9 #[.slice A n c, .int .i64 a] w fun ee w' => ∃ B m N x e, ee = .returned (.tuple #[.slice B N m, .int .i64 x, .int .i64 e]) ∧
      ∃ T : List SV, T.length = N ∧ SMem w' B N T ∧ N ≤ m ∧ m ≤ 9223372036854775807 ∧ RelR L a (T.map SV.pl) x e ∧ Gr w w' := by
  refine (Release_own hm hnc hcm ha).mono ?_
  rintro ee w' ⟨B, m, N, x, e, rfl, T, h0, h1, h2, h3, h4, h5, _⟩
  exact ⟨B, m, N, x, e, rfl, T, h0, h1, h2, h3, h4, h5⟩
theorem RelR.queued {T : List SV} {x e : Int} (h : RelR L a (T.map SV.pl) x e) (he : e = 0) (hx : x ≠ -1) : qd L x = qd T x + 1 ∧ 0 ≤ x := by
  rcases h with ⟨_, _, _, h⟩ | ⟨ht, hk, h⟩
  · omega
  · obtain ⟨k1, k2, k3, k4⟩ := gt_cnt ht.2 hk
    rcases h with ⟨r, hl, hT, _⟩ | ⟨_, _, _, _, h⟩ | ⟨_, _, _, _, _, h⟩ | ⟨_, _, _, _, h, _⟩
    · rw [qd_pl hT]
      rw [hl] at k3
      exact ⟨qd_set ht.2 hl rfl rfl, (L7.good_cons.1 k3.2).1⟩
    · omega
    · omega
    · exact absurd h hx
/-- Nothing of what a table reads lies in a block. -/
def Far (g : Option Nat) (A : Option Addr) (n : Nat) (L : List SV) : Prop :=
  ∀ k, g = some k → (0 < n → A.map (·.block) ≠ some k) ∧ ∀ x ∈ L, 0 < x.n → x.A.map (·.block) ≠ some k
theorem Far.none_ : Far none A n L := fun k h => by cases h
/-- It is kept where that block alone is written. -/
theorem Far.kept {g : Option Nat} (hm : SMem w A n L) (hf : Far g A n L) {W' : World} (hg : w.grownBy W' g) : SMem W' A n L := by
  refine ⟨hm.1, fun x hx => ?_, fun hn => ?_⟩
  · obtain ⟨a1, a2, a3, a4⟩ := hm.2.1 x hx
    refine ⟨a1, a2, ?_, a4⟩
    rcases Nat.eq_zero_or_pos x.n with h0 | h0
    · exact ⟨a3.1, a3.2.1, fun hn => absurd hn (by omega)⟩
    · exact imem_kept a3 hg fun k hk _ e => (hf k e).2 x hx h0 hk
  · obtain ⟨b, off, rfl, hlt, hc⟩ := hm.2.2 hn
    refine ⟨b, off, rfl, Nat.lt_of_lt_of_le hlt hg.size, fun j x hj => ?_⟩
    have e := hg.block b hlt (fun e => (hf b e.symm).1 hn rfl)
    rw [World.cell?_of_block (a := ⟨b, off + j * 3, none⟩) e, World.cell?_of_block (a := ⟨b, off + j * 3 + 1, none⟩) e, World.cell?_of_block (a := ⟨b, off + j * 3 + 2, none⟩) e]
    exact hc j x hj
/-- What reads lies far from what is new. -/
theorem far_new (hm : SMem w A n L) {g : Nat} (hg : w.heap.size ≤ g) : Far (some g) A n L := by
  intro k e
  cases e
  refine ⟨fun hn h => ?_, fun x hx hn h => ?_⟩
  · obtain ⟨b, off, rfl, hlt, _⟩ := hm.2.2 hn
    simp only [Option.map_some, Option.some.injEq] at h
    omega
  · obtain ⟨b, off, e, hlt, _⟩ := (hm.2.1 x hx).2.2.1.2.2 hn
    rw [e] at h
    simp only [Option.map_some, Option.some.injEq] at h
    omega
/-- What is new lies far from what is old. -/
theorem SOwn.far {base m : Nat} (h : SOwn w base (.slice A n m) L) {g : Option Nat} (hg : ∀ k, g = some k → k < base) : Far g A n L := by
  intro k e
  have hk := hg k e
  refine ⟨fun hn h' => ?_, fun x hx hn h' => ?_⟩
  · rcases h.row.2 with ⟨e1, _⟩ | ⟨b, cap, cur, e1, h1, _⟩
    · cases e1
      cases h'
    · cases e1
      simp only [Option.map_some, Option.some.injEq] at h'
      omega
  · have := (h.off x hx k h').1
    omega
end
end Go.Proofs.Ytmkkeknimpjfoaa
