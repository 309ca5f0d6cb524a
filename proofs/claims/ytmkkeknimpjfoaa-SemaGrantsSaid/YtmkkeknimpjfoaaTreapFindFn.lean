/-
  Package treap: Find, Next: their answers.
-/
import Derived.Test.YtmkkeknimpjfoaaTreapFind
namespace Go.Proofs.Ytmkkeknimpjfoaa
open Go.ChangeShapes Go.WideShapes Go.ChangeAt Go.RowKit Go.Shelf
set_option linter.unusedVariables false
set_option linter.unusedSimpArgs false

section
variable {w0 W : World} {r : Int} {A : Option Addr} {n c tb kb sb : Nat} {x v : Int} {l : List Nd} {t : T}
theorem NMem.place (hm : NMem w0 A n l) : ∃ b off, n = 0 ∨ A = some ⟨b, off, none⟩ := by
  by_cases h : n = 0
  · exact ⟨0, 0, .inl h⟩
  · obtain ⟨b, off, e, _⟩ := hm.2.2 (by omega)
    exact ⟨b, off, .inr e⟩
theorem NMem.links {b off : Nat} (hm : NMem W A n l) (hA : n = 0 ∨ A = some ⟨b, off, none⟩) : ∀ i nd, l[i]? = some nd → W.cell? ⟨b, off + i * 3 + 1, none⟩ = some (.int .i64 nd.left) ∧ W.cell? ⟨b, off + i * 3 + 2, none⟩ = some (.int .i64 nd.right) := by
  intro i nd hx
  have hi := (List.getElem?_eq_some_iff.1 hx).1
  rcases hA with rfl | rfl
  · have := hm.1; omega
  · exact (hm.cells hx).2
theorem find_any {b off : Nat} (hm : NMem w0 A n l) (hA : n = 0 ∨ A = some ⟨b, off, none⟩) : Further 66 #[.pointer (some ⟨kb, 0, none⟩), .pointer (some ⟨sb, 0, none⟩)] (FW w0 r A n c tb kb sb x) (fdir x) (fupd x) b off l := by
  rcases hA with rfl | rfl
  · intro s W i nd hW hx
    have hi := (List.getElem?_eq_some_iff.1 hx).1
    have := hm.1; omega
  · exact find_further hm
theorem next_any {b off : Nat} (hm : NMem w0 A n l) (hA : n = 0 ∨ A = some ⟨b, off, none⟩) : Further 59 #[.pointer (some ⟨kb, 0, none⟩), .pointer (some ⟨sb, 0, none⟩)] (FW w0 r A n c tb kb sb x) (ndir x) (nupd x) b off l := by
  rcases hA with rfl | rfl
  · intro s W i nd hW hx
    have hi := (List.getElem?_eq_some_iff.1 hx).1
    have := hm.1; omega
  · exact next_further hm
theorem find_way (hm : NMem w0 A n l) (hg : Good l r t) (hW : FW w0 r A n c tb kb sb x 0 W) :
    ∃ (pb po : Nat) (v d : Int), Calls Try.prog 58 #[.pointer (some ⟨tb, 0, none⟩), .func (.func 66) #[] #[.pointer (some ⟨kb, 0, none⟩), .pointer (some ⟨sb, 0, none⟩)]] W
      (fun e w' => e = .returned (.pointer (some ⟨pb, po, none⟩)) ∧ w'.cell? ⟨pb, po, none⟩ = some (.int .i64 v) ∧ FW w0 r A n c tb kb sb x d w') ∧ ((x ∉ t.inord ∧ v = -1) ∨ (x ∈ t.inord ∧ 0 ≤ v ∧ d = dpt t x)) := by
  obtain ⟨b, off, hA⟩ := hm.place
  have hS := hg.2.1
  have h64 := hg.2.2.1
  have hR := @run_find x b off t _ _ tb 0 0 hg.2.2.2.1 (by omega) (by omega)
  have hL : ∀ W', FW w0 r A n c tb kb sb x (run (fdir x) (fupd x) b off t tb 0 0).2.2 W' → ∃ v, Lay l (run (fdir x) (fupd x) b off t tb 0 0).2.1 v ∧ W'.cell? ⟨(run (fdir x) (fupd x) b off t tb 0 0).1.1, (run (fdir x) (fupd x) b off t tb 0 0).1.2, none⟩ = some (.int .i64 v) :=
    fun W' h => run_lay ((hm.gr h.gr).links hA) hg.1 ((fw_keeps hm).root _ _ h)
  have hF := follow_is (enters_of Try.func66 (by kernel_rfl) rfl) (fw_keeps hm) (find_any hm hA) hA hg.1 hW
  by_cases hx : x ∈ t.inord
  · obtain ⟨h1, h2⟩ := hR.2 hx
    generalize (run (fdir x) (fupd x) b off t tb 0 0) = R0 at *
    obtain ⟨⟨pb, po⟩, S, d⟩ := R0
    dsimp only at *
    cases S with
    | nil => exact absurd rfl h1
    | node i k L R =>
      refine ⟨pb, po, (i : Int), d, hF.mono ?_, .inr ⟨hx, by omega, by omega⟩⟩
      rintro e w' ⟨rfl, hI⟩
      obtain ⟨v, hv, hc⟩ := hL w' hI
      obtain rfl : v = (i : Int) := hv.1
      exact ⟨rfl, hc, hI⟩
  · have h1 := hR.1 hx
    generalize (run (fdir x) (fupd x) b off t tb 0 0) = R0 at *
    obtain ⟨⟨pb, po⟩, S, d⟩ := R0
    dsimp only at *
    subst h1
    refine ⟨pb, po, -1, d, hF.mono ?_, .inl ⟨hx, rfl⟩⟩
    rintro e w' ⟨rfl, hI⟩
    obtain ⟨v, hv, hc⟩ := hL w' hI
    obtain rfl : v = -1 := hv
    exact ⟨rfl, hc, hI⟩
theorem next_way (hm : NMem w0 A n l) (hg : Good l r t) (hW : FW w0 r A n c tb kb sb x (-1) W) :
    ∃ (pb po : Nat), Calls Try.prog 58 #[.pointer (some ⟨tb, 0, none⟩), .func (.func 59) #[] #[.pointer (some ⟨kb, 0, none⟩), .pointer (some ⟨sb, 0, none⟩)]] W
      (fun e w' => e = .returned (.pointer (some ⟨pb, po, none⟩)) ∧ FW w0 r A n c tb kb sb x (nx t x (-1)) w') := by
  obtain ⟨b, off, hA⟩ := hm.place
  have hF := follow_is (enters_of Try.func59 (by kernel_rfl) rfl) (fw_keeps hm) (next_any hm hA) hA hg.1 hW
  rw [run_next] at hF
  exact ⟨_, _, hF⟩

/-- What Find answers. -/
def FindR (l : List Nd) (r x d e : Int) : Prop := (¬ IsKey x ∧ d = 0 ∧ e = 1) ∨ (IsKey x ∧ (¬ ∃ t, Good l r t) ∧ d = 0 ∧ e = 1) ∨ (IsKey x ∧ ∃ t, Good l r t ∧ ((x ∉ t.inord ∧ d = 0 ∧ e = 4) ∨ (x ∈ t.inord ∧ d = dpt t x ∧ e = 0)))
theorem FindR.any (l : List Nd) (r x : Int) : ∃ d e, FindR l r x d e := by
  by_cases h : IsKey x
  · by_cases g : ∃ t, Good l r t
    · obtain ⟨t, ht⟩ := g
      by_cases m : x ∈ t.inord
      · exact ⟨_, _, .inr (.inr ⟨h, t, ht, .inr ⟨m, rfl, rfl⟩⟩)⟩
      · exact ⟨_, _, .inr (.inr ⟨h, t, ht, .inl ⟨m, rfl, rfl⟩⟩)⟩
    · exact ⟨_, _, .inr (.inl ⟨h, g, rfl, rfl⟩)⟩
  · exact ⟨_, _, .inl ⟨h, rfl, rfl⟩⟩

set_option maxHeartbeats 4000000 in
theorem Find_is (hm : NMem w0 A n l) {d e : Int} (h : FindR l r x d e) :
    Calls Try.prog 63 #[.agg #[.int .i64 r, .slice A n c], .int .i64 x] w0 fun ee w' => ee = .returned (.tuple #[.int .i64 d, .int .i64 e]) ∧ Gr w0 w' := by
  have g0 := ((Gr.refl w0).al (.cells #[.int .i64 r, .slice A n c] 84)).al (.cells #[.int .i64 x] 3)
  have hP := fun W => Pri_is x W
  obtain ⟨p, hp⟩ : ∃ p, prf x = p := ⟨_, rfl⟩
  rw [hp] at hP
  have KP := Lib.hid hP
  have hpr := pri_range x
  rcases h with ⟨h1, rfl, rfl⟩ | ⟨h1, h2, rfl, rfl⟩ | ⟨h1, t, hg, hcase⟩
  · have hp0 : p < 0 := by rw [← hp, prf_no h1]; decide
    clear hP hp
    go_enter Try.func63, Try.ntmps63
    go_wp2_with fail
    with_reducible refine (KP.out _).mono ?_
    rintro e w1 ⟨rfl, rfl⟩
    go_wp2_with fail
    go_ret2
    exact ⟨rfl, g0⟩
  · have hp0 : ¬ p < 0 := by rw [← hp, prf_key h1]; omega
    have hC := Lib.hid (Right_is (c := c) (hm.gr g0) (v := false) (r := r) ⟨fun h => (by cases h), fun h => absurd h h2⟩)
    clear hP hp h2
    go_enter Try.func63, Try.ntmps63
    go_wp2_with fail
    with_reducible refine (KP.out _).mono ?_
    rintro e w1 ⟨rfl, rfl⟩
    go_wp2_with fail
    with_reducible refine hC.out.mono ?_
    rintro e w1 ⟨rfl, hb1⟩
    go_wp2_with fail
    go_ret2
    exact ⟨rfl, g0.trans hb1⟩
  · have hp0 : ¬ p < 0 := by rw [← hp, prf_key h1]; omega
    have hC := Lib.hid (Right_is (c := c) (hm.gr g0) (v := true) (r := r) ⟨fun _ => ⟨t, hg⟩, fun _ => rfl⟩)
    have B0 := (Blk.new w0 #[.int .i64 r, .slice A n c] 84).al (.cells #[.int .i64 x] 3)
    have B1 := Blk.new (w0.alloc (.cells #[.int .i64 r, .slice A n c] 84)) #[.int .i64 x] 3
    have HM := Lib.hid hm
    have HG := Lib.hid hg
    have HC := Lib.hid hcase
    have hsz : w0.heap.size + 2 = ((w0.alloc (.cells #[.int .i64 r, .slice A n c] 84)).alloc (.cells #[.int .i64 x] 3)).heap.size := by simp
    simp only [World.size_alloc] at B1
    clear hP hp hm hg hcase
    go_enter Try.func63, Try.ntmps63
    go_wp2_with fail
    with_reducible refine (KP.out _).mono ?_
    rintro e w1 ⟨rfl, rfl⟩
    go_wp2_with fail
    with_reducible refine hC.out.mono ?_
    rintro e w2 ⟨rfl, hb1⟩
    have hFW : FW w0 r A n c w0.heap.size (w0.heap.size + 1) w2.heap.size x 0 (w2.alloc (.cells #[.int .i64 0] 3)) := by
      have := hb1.size
      exact ⟨(g0.trans hb1).al _, (B0.gr hb1).al _, (B1.gr hb1).al _, Blk.new _ _ _, by omega, by omega, by omega⟩
    obtain ⟨pb, po, v, d', hway, hv⟩ := find_way HM.out HG.out hFW
    have KW := Lib.hid hway
    have HV := Lib.hid hv
    clear hway hv hsz
    go_wp2_with fail
    with_reducible refine KW.out.mono ?_
    rintro e w3 ⟨rfl, hc, hF⟩
    have f0 := (hF.b2.at_ (k := 0) rfl).1
    have GF := Lib.hid hF.gr
    clear hF KW hFW
    have hcase := HC.out
    rcases HV.out with ⟨m, rfl⟩ | ⟨m, m2, m3⟩
    · rcases hcase with ⟨_, rfl, rfl⟩ | ⟨m', _, _⟩
      · clear HC HV
        go_wp2_with fail
        go_ret2
        exact ⟨rfl, GF.out⟩
      · exact absurd m' m
    · rcases hcase with ⟨m', _, _⟩ | ⟨_, e1, rfl⟩
      · exact absurd m m'
      · rw [← m3] at e1
        subst e1
        have ne : (v == -1) = false := beq_eq_false_iff_ne.2 (by omega)
        clear m3 HC HV
        go_wp2_with fail
        go_ret2
        exact ⟨rfl, GF.out⟩
end
end Go.Proofs.Ytmkkeknimpjfoaa
