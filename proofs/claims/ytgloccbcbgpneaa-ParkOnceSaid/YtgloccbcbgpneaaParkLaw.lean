/-
  What the laws of park share: what a call answers, in letters; few, alive.
-/
import Derived.Test.YtgloccbcbgpneaaParkRefB
namespace Go.Proofs.Ytgloccbcbgpneaa
open Go.ChangeShapes Go.WideShapes Go.ChangeAt Go.RowKit
set_option linter.unusedVariables false
namespace P11

/-- What a call answers: N goroutines that read as R, in new blocks, and an error. -/
def GotN (w : World) (N : Nat) (q : Int) (R : List G) (e : Ending) (w' : World) : Prop :=
  ∃ B m, e = .returned (.tuple #[.slice B N m, .int .i64 q]) ∧ GMem w' B N R ∧ N ≤ m ∧ Late w.heap.size B ∧ Gr w w'
theorem got_n {w w' : World} {N : Nat} {q : Int} {R : List G} {e : Ending} (h : Got w (q, R) e w') (hl : R.length = N) : GotN w N q R e w' := by
  obtain ⟨B, m, h1, h2, h3, h4, h5⟩ := h
  simp only [hl] at h1 h2 h4
  exact ⟨B, m, h1, h2, h4, h3, h5⟩
section
variable {A : Option Addr} {n c N : Nat} {l R : List G} {who q : Int} {w : World}
theorem Park_at (hn : n ≤ 9223372036854775807) (hr : outc pkG l who = (q, R)) (hl : R.length = N) (w : World) (hm : GMem w A n l) :
    Calls Try.prog 8 #[.slice A n c, .int .i64 who] w (GotN w N q R) :=
  (Park_is hn w hm).mono fun _ _ h => got_n (hr ▸ h) hl
theorem Ready_at (hn : n ≤ 9223372036854775807) (hr : outc rdG l who = (q, R)) (hl : R.length = N) (w : World) (hm : GMem w A n l) :
    Calls Try.prog 9 #[.slice A n c, .int .i64 who] w (GotN w N q R) :=
  (Ready_is hn w hm).mono fun _ _ h => got_n (hr ▸ h) hl
theorem End_at (hn : n ≤ 9223372036854775807) (hr : outc enG l who = (q, R)) (hl : R.length = N) (w : World) (hm : GMem w A n l) :
    Calls Try.prog 10 #[.slice A n c, .int .i64 who] w (GotN w N q R) :=
  (End_is hn w hm).mono fun _ _ h => got_n (hr ▸ h) hl
end
theorem Runnable_at {A : Option Addr} {n c v : Nat} {l : List G} (hn : n ≤ 9223372036854775807) (hr : rightB l = true) (hv : (rn l).length = v) (w : World) (hm : GMem w A n l) :
    Calls Try.prog 11 #[.slice A n c] w fun e w' => ∃ C d, e = .returned (.tuple #[.slice C v d, .int .i64 0]) ∧ IMem w' C v (rn l) ∧ v ≤ d ∧ Gr w w' :=
  (Runnable_yes hn hr w hm).mono fun _ _ h => by
    obtain ⟨C, d, h1, h2, h3⟩ := h
    rw [hv] at h1 h2
    exact ⟨C, d, h1, h2.mem, h2.le, h3⟩
/-- Either an error and no row, or a row with one changed. -/
theorem outc_cases (p : G → Int × G) (hp : ∀ x, (p x).1 = 0 ∨ (p x).1 = 6 ∨ (p x).1 = 7) (l : List G) (who : Int) :
    (∃ q, outc p l who = (q, []) ∧ q ≠ 0) ∨ ∃ (k : Nat) (x y : G), who = (k : Int) ∧ rightB l = true ∧ l[k]? = some x ∧ p x = (0, y) ∧ outc p l who = (0, l.set k y) := by
  by_cases hr : rightB l = true
  · by_cases hw : who < 0 ∨ (l.length : Int) ≤ who
    · exact .inl ⟨3, outc_range hr hw, by omega⟩
    · obtain ⟨k, rfl⟩ : ∃ k : Nat, who = (k : Int) := ⟨who.toNat, by omega⟩
      obtain ⟨x, hx⟩ : ∃ x, l[k]? = some x := ⟨_, List.getElem?_eq_getElem (by omega)⟩
      have h := outc_at (p := p) hr hx
      obtain ⟨⟨q, y⟩, hq⟩ : ∃ r, p x = r := ⟨_, rfl⟩
      have h3 := hp x
      rw [hq] at h h3
      by_cases h0 : q = 0
      · subst h0
        exact .inr ⟨k, x, y, rfl, hr, hx, hq, by rw [h, if_pos rfl]⟩
      · exact .inl ⟨q, by rw [h, if_neg h0], h0⟩
  · exact .inl ⟨1, outc_arg (by simpa using hr), by omega⟩
theorem right_set {l : List G} {k : Nat} {y : G} (hr : rightB l = true) (hy : okG y = true) : rightB (l.set k y) = true := by
  simp only [rightB, Bool.and_eq_true, decide_eq_true_eq, List.all_eq_true, List.length_set] at hr ⊢
  refine ⟨hr.1, fun x hx => ?_⟩
  rcases List.mem_or_eq_of_mem_set hx with h | rfl
  · exact hr.2 x h
  · exact hy
theorem ok_of {l : List G} {k : Nat} {x : G} (hr : rightB l = true) (hx : l[k]? = some x) : okG x = true := by
  simp only [rightB, Bool.and_eq_true, List.all_eq_true] at hr
  exact hr.2 x (List.mem_of_getElem? hx)
theorem pk_yes {x y : G} (h : pkG x = (0, y)) : x.1 = 0 ∧ y = (if x.2 then 0 else 1, false) := by
  unfold pkG at h
  split at h
  · exact ⟨by assumption, by simpa using h.symm⟩
  · simp at h
theorem rd_yes {x y : G} (h : rdG x = (0, y)) : x.1 ≠ 2 ∧ x.2 = false ∧ y = (0, x.1 == 0) := by
  unfold rdG at h
  split at h
  · simp at h
  · split at h
    · simp at h
    · exact ⟨by assumption, by simpa using ‹¬ x.2 = true›, by simpa using h.symm⟩

set_option maxHeartbeats 1000000 in
theorem few_ok (A : Option Addr) (n c m : Nat) (hc : n ≤ c) (hn : n ≤ 9223372036854775807) (hmn : (12 < n ∧ m = 12) ∨ (n ≤ 12 ∧ m = n)) (w : World) :
    Calls Try.prog 7 #[.slice A n c] w fun e w' => e = .returned (.slice A m c) ∧ w' = w := by
  rcases hmn with ⟨h, rfl⟩ | ⟨h, rfl⟩
  all_goals (
    go_enter Try.func7, Try.ntmps7
    go_wp2_with fail
    go_ret
    exact ⟨rfl, rfl⟩)
set_option maxHeartbeats 1000000 in
theorem alive_ok (w : World) : Calls Try.prog 14 #[] w fun e w' => e = .returned (.bool true) ∧ Gr w w' := by
  have hm := GMem.of_blk (l := [(0, false)]) (Blk.new w #[.int .i64 0, .bool false] 40) rfl (by intro x hx; simp at hx; subst hx; exact ⟨by decide, by decide⟩)
  have c1 := fun c => Lib.hid (Ready_at (c := c) (who := 0) (N := 1) (q := 0) (R := [(0, true)]) (n := 1) (by omega) (by decide +kernel) rfl _ hm)
  have c2 := fun A w hm c => Lib.hid (Park_at (A := A) (c := c) (who := 0) (N := 1) (q := 0) (R := [(0, false)]) (n := 1) (l := [(0, true)]) (by omega) (by decide +kernel) rfl w hm)
  clear hm
  go_enter Try.func14, Try.ntmps14
  go_wp2_with fail
  with_reducible refine (c1 _).out.mono ?_
  rintro e w1 ⟨B, m, rfl, hB, hm1, -, g1⟩
  have HB := Lib.hid hB
  have G1 := Lib.hid (((Gr.refl w).al _).trans g1)
  clear hB g1
  go_wp2_with fail
  with_reducible refine (c2 _ _ HB.out _).out.mono ?_
  rintro e w2 ⟨C, m2, rfl, hC, hm2, -, g2⟩
  obtain ⟨b, off, x, rfl, hbl, hx, hix, p0, p1⟩ := (HB.out.gr g2).at_ (k := 0) (by omega)
  obtain ⟨b2, off2, x2, rfl, hbl2, hx2, hix2, r0, r1⟩ := hC.at_ (k := 0) (by omega)
  simp only [List.getElem?_cons_zero, Option.some.injEq] at hx hx2
  subst hx hx2
  simp only [Nat.zero_mul, Nat.add_zero] at p0 p1 r0 r1
  have G2 := Lib.hid (G1.out.trans g2)
  clear hC g2 c1 c2
  go_wp2_with fail
  go_ret
  exact ⟨rfl, G2.out⟩
end P11
end Go.Proofs.Ytgloccbcbgpneaa
