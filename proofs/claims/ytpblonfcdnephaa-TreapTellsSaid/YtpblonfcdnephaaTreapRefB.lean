/-
  The reference of package treap: its walk of a tree, lighter, Keys.
-/
import Derived.Test.YtpblonfcdnephaaTreapRefMath
import Derived.Test.YtpblonfcdnephaaTreapRefA
namespace Go.Proofs.Ytpblonfcdnephaa
open Go.ChangeShapes Go.WideShapes Go.ChangeAt Go.RowKit
set_option linter.unusedVariables false
set_option linter.unusedSimpArgs false

/-- What walk answers. -/
def WkAns : Option (T × Nat) → World → Ending → World → Prop
  | none, W, e, w' => e = .returned (.tuple #[.slice none 0 0, .int .i64 (-1)]) ∧ Gr W w'
  | some (t, y), W, e, w' => ∃ C k, e = .returned (.tuple #[.slice C t.size k, .int .i64 y]) ∧ IOwn W.heap.size w' C t.size k t.inord ∧ Gr W w'
section
variable {w0 : World} {r : Int} {A : Option Addr} {n c : Nat} {l : List Nd}
set_option maxHeartbeats 8000000 in
theorem rWalk_is (hm : NMem w0 A n l) {a : Int} {m : Nat} {o : Option (T × Nat)} (hw : Wk l a m o) : m ≤ 1000 → ∀ W, Gr w0 W →
    Calls Try.prog 34 #[.agg #[.int .i64 r, .slice A n c], .int .i64 a, .int .i64 (m : Int)] W (WkAns o W) := by
  have hlen := hm.1
  induction hw with
  | nil m =>
    intro hmm W hg
    clear hm
    go_enter Try.func34, Try.ntmps34
    go_wp2_with fail
    go_ret2
    exact ⟨_, _, rfl, OMem.nil_, (Gr.refl _).al _⟩
  | out a m h1 h2 =>
    intro hmm W hg
    have ne : (a == -1) = false := beq_eq_false_iff_ne.2 h1
    rw [hlen] at h2
    clear hm
    rcases h2 with h | ⟨h, h'⟩ | ⟨h, h', rfl⟩
    · go_enter Try.func34, Try.ntmps34
      go_wp2_with fail
      go_ret2
      exact ⟨rfl, (Gr.refl _).al _⟩
    · have g0 : ¬ a < 0 := by omega
      go_enter Try.func34, Try.ntmps34
      go_wp2_with fail
      go_ret2
      exact ⟨rfl, (Gr.refl _).al _⟩
    · have g0 : ¬ a < 0 := by omega
      go_enter Try.func34, Try.ntmps34
      go_wp2_with fail
      go_ret2
      exact ⟨rfl, (Gr.refl _).al _⟩
  | left i nd m hx hs ih =>
    intro hmm W hg
    have hi : i < n := by have := (List.getElem?_eq_some_iff.1 hx).1; omega
    obtain ⟨b, off, nd', rfl, hbl, hx', i0, i1, i2, d0, d1, d2⟩ := (hm.gr hg).at_ hi
    rw [hx] at hx'
    cases hx'
    obtain ⟨x, y, z⟩ := nd
    dsimp only at *
    have g0 : ¬ ((i : Int) < 0) := by omega
    have g1 : (i : Int) < (n : Int) := by omega
    have g2 : ((i : Int) == -1) = false := beq_eq_false_iff_ne.2 (by omega)
    have g3 : (((m + 1 : Nat) : Int) == 0) = false := beq_eq_false_iff_ne.2 (by omega)
    have e1 : IntKind.i64.wrap (((m + 1 : Nat) : Int) - 1) = (m : Int) := by rw [wrap_id (by omega) (by omega)]; omega
    have g5 := ((Gr.refl W).al (.cells #[.int .i64 r, .slice (some ⟨b, off, none⟩) n c] 24)).al (.cells #[.int .i64 x, .int .i64 y, .int .i64 z] 53)
    have kI := Lib.hid (ih (by omega) _ (hg.trans g5))
    generalize ((m + 1 : Nat) : Int) = M at *
    clear hm ih hs hx hg
    go_enter Try.func34, Try.ntmps34
    go_wp2_with fail
    with_reducible refine kI.out.mono ?_
    rintro e w1 ⟨rfl, hb1⟩
    go_wp2_with fail
    go_ret2
    exact ⟨rfl, g5.trans hb1⟩
  | right i nd m L v hx hv hL hs hs2 ih ih2 =>
    intro hmm W hg
    have hi : i < n := by have := (List.getElem?_eq_some_iff.1 hx).1; omega
    obtain ⟨b, off, nd', rfl, hbl, hx', i0, i1, i2, d0, d1, d2⟩ := (hm.gr hg).at_ hi
    rw [hx] at hx'
    cases hx'
    obtain ⟨x, y, z⟩ := nd
    dsimp only at *
    have g0 : ¬ ((i : Int) < 0) := by omega
    have g1 : (i : Int) < (n : Int) := by omega
    have g2 : ((i : Int) == -1) = false := beq_eq_false_iff_ne.2 (by omega)
    have g3 : (((m + 1 : Nat) : Int) == 0) = false := beq_eq_false_iff_ne.2 (by omega)
    have e1 : IntKind.i64.wrap (((m + 1 : Nat) : Int) - 1) = (m : Int) := by rw [wrap_id (by omega) (by omega)]; omega
    have g5 := ((Gr.refl W).al (.cells #[.int .i64 r, .slice (some ⟨b, off, none⟩) n c] 24)).al (.cells #[.int .i64 x, .int .i64 y, .int .i64 z] 53)
    have B0 := (Blk.new W #[.int .i64 r, .slice (some ⟨b, off, none⟩) n c] 24).al (.cells #[.int .i64 x, .int .i64 y, .int .i64 z] 53)
    have B1 := Blk.new (W.alloc (.cells #[.int .i64 r, .slice (some ⟨b, off, none⟩) n c] 24)) #[.int .i64 x, .int .i64 y, .int .i64 z] 53
    simp only [World.size_alloc] at B1
    have kI := Lib.hid (ih (by omega) _ (hg.trans g5))
    have kI2 := Lib.hid (fun W1 h => ih2 (by omega) W1 ((hg.trans g5).trans h))
    have gv : ¬ ((v : Nat) : Int) < 0 := by omega
    generalize ((m + 1 : Nat) : Int) = M at *
    generalize L.size = q at *
    clear hm ih ih2 hs hs2 hx hg
    go_enter Try.func34, Try.ntmps34
    go_wp2_with fail
    with_reducible refine kI.out.mono ?_
    rintro e w1 ⟨C1, k1, rfl, own1, hb1⟩
    have f0 := ((B0.gr hb1).at_ (k := 0) rfl).1
    have f1 := ((B0.gr hb1).at_ (k := 1) rfl).1
    have f2 := ((B1.gr hb1).at_ (k := 2) rfl).1
    clear own1
    go_wp2_with fail
    with_reducible refine (kI2.out _ hb1).mono ?_
    rintro e w2 ⟨rfl, hb2⟩
    go_wp2_with fail
    go_ret2
    exact ⟨rfl, (g5.trans hb1).trans hb2⟩
  | both i nd m L v R u hx hv hL hR hs hs2 ih ih2 =>
    intro hmm W hg
    have hi : i < n := by have := (List.getElem?_eq_some_iff.1 hx).1; omega
    obtain ⟨b, off, nd', rfl, hbl, hx', i0, i1, i2, d0, d1, d2⟩ := (hm.gr hg).at_ hi
    rw [hx] at hx'
    cases hx'
    obtain ⟨x, y, z⟩ := nd
    dsimp only at *
    have g0 : ¬ ((i : Int) < 0) := by omega
    have g1 : (i : Int) < (n : Int) := by omega
    have g2 : ((i : Int) == -1) = false := beq_eq_false_iff_ne.2 (by omega)
    have g3 : (((m + 1 : Nat) : Int) == 0) = false := beq_eq_false_iff_ne.2 (by omega)
    have e1 : IntKind.i64.wrap (((m + 1 : Nat) : Int) - 1) = (m : Int) := by rw [wrap_id (by omega) (by omega)]; omega
    have g5 := ((Gr.refl W).al (.cells #[.int .i64 r, .slice (some ⟨b, off, none⟩) n c] 24)).al (.cells #[.int .i64 x, .int .i64 y, .int .i64 z] 53)
    have B0 := (Blk.new W #[.int .i64 r, .slice (some ⟨b, off, none⟩) n c] 24).al (.cells #[.int .i64 x, .int .i64 y, .int .i64 z] 53)
    have B1 := Blk.new (W.alloc (.cells #[.int .i64 r, .slice (some ⟨b, off, none⟩) n c] 24)) #[.int .i64 x, .int .i64 y, .int .i64 z] 53
    simp only [World.size_alloc] at B1
    have kI := Lib.hid (ih (by omega) _ (hg.trans g5))
    have kI2 := Lib.hid (fun W1 h => ih2 (by omega) W1 ((hg.trans g5).trans h))
    have gv : ¬ ((v : Nat) : Int) < 0 := by omega
    generalize ((m + 1 : Nat) : Int) = M at *
    obtain ⟨i0', hi0, hz0, hz1, hz2⟩ := info_parts infoInt
    have HZ := Lib.hid hz0
    have HZ1 := Lib.hid hz1
    have HZ2 := Lib.hid hz2
    have HI0 := Lib.hid hi0
    have hkx := i0
    clear hz0 hz1 hz2 hi0
    have gu : ¬ ((u : Nat) : Int) < 0 := by omega
    have HT1 := Lib.hid (show (T.node i x L R).size = L.size + 1 + R.size from by simp [T.size]; omega)
    have HT2 := Lib.hid (show (T.node i x L R).inord = L.inord ++ [x] ++ R.inord from by simp [T.inord])
    have hqm : L.size ≤ 1000 := by omega
    have hrm : R.size ≤ 1000 := by omega
    clear hm ih ih2 hs hs2 hx hg
    go_enter Try.func34, Try.ntmps34
    go_wp2_with fail
    with_reducible refine kI.out.mono ?_
    rintro e w1 ⟨C1, k1, rfl, own1, hb1⟩
    have f0 := ((B0.gr hb1).at_ (k := 0) rfl).1
    have f1 := ((B0.gr hb1).at_ (k := 1) rfl).1
    have f2 := ((B1.gr hb1).at_ (k := 2) rfl).1
    have O1 := Lib.hid own1
    have HB1 := Lib.hid hb1
    have BN := B1.gr hb1
    clear own1
    go_wp2_with fail
    with_reducible refine (kI2.out _ hb1).mono ?_
    rintro e w2 ⟨C2, k2, rfl, own2, hb2⟩
    have O2 := Lib.hid own2
    have M1 := Lib.hid (O1.out.mem.gr hb2)
    have HB2 := Lib.hid ((g5.trans HB1.out).trans hb2)
    have f3 := ((BN.gr hb2).at_ (k := 0) rfl).1
    have BN2 := Lib.hid (BN.gr hb2)
    have o0 := omem_empty (enc := Value.int .i64) (ok := B64) w2 3 (Nat.le_refl _)
    have g0' := (Gr.refl w2).al (.cells #[] 3)
    clear own2 hb2 hb1 f0 f1 f2 BN
    go_wp2_with (at_builtin; refine Mark.stop ?_)
    refine Mark.go ?_
    refine wpList_append_omem _ (Value.int .i64) B64 rfl (.tmp 57) (.tmp 58) 29 rfl (fun _ => rfl) w2.heap.size 3 i0' (.int .i64 0) 8 Try.underlying29 HI0.out HZ.out HZ1.out HZ2.out rfl _ 0 0 [] rfl o0 C1 L.size k1 _ rfl (M1.out.gr g0') (by unfold maxLen; omega) (by omega) g0'.size ?_
    intro C3 k3 w3 own3 gb3
    simp only [Nat.zero_add, List.nil_append] at own3
    have G3 := Lib.hid (g0'.gb gb3 (fun k hk => (o0.lt k hk).1))
    have f4 := ((BN2.out.gr G3.out).at_ (k := 0) rfl).1
    simp only [Nat.zero_add]
    clear gb3 f3
    go_wp2_with (at_builtin; refine Mark.stop ?_)
    refine Mark.go ?_
    refine wpList_append_omem _ (Value.int .i64) B64 rfl (.tmp 60) (.tmp 63) 29 rfl (fun _ => rfl) w2.heap.size 3 i0' (.int .i64 0) 8 Try.underlying29 HI0.out HZ.out HZ1.out HZ2.out rfl C3 L.size k3 _ rfl (own3.gr ((Gr.refl _).al _)) _ 1 1 [x] rfl (emem_one _ x hkx _) (by unfold maxLen; omega) (by omega) (G3.out.al _).size ?_
    intro C4 k4 w4 own4 gb4
    have G4 := Lib.hid ((G3.out.al (.cells #[.int .i64 x] 3)).gb gb4 (fun k hk => (own3.lt k hk).1))
    clear gb4 own3 f4
    go_wp2_with (at_builtin; refine Mark.stop ?_)
    refine Mark.go ?_
    refine wpList_append_omem _ (Value.int .i64) B64 rfl (.tmp 65) (.tmp 66) 29 rfl (fun _ => rfl) w2.heap.size 3 i0' (.int .i64 0) 8 Try.underlying29 HI0.out HZ.out HZ1.out HZ2.out rfl C4 (L.size + 1) k4 _ rfl own4 C2 R.size k2 _ rfl (O2.out.mem.gr G4.out) (by unfold maxLen; omega) (by omega) G4.out.size ?_
    intro C5 k5 w5 own5 gb5
    have G5 := Lib.hid (G4.out.gb gb5 (fun k hk => (own4.lt k hk).1))
    have O5 := Lib.hid (own5.low HB2.out.size)
    clear gb5 own4 own5
    go_wp2_with fail
    go_ret2
    have hfin : ∀ (N : Nat) (K : List Int), N = L.size + 1 + R.size → K = L.inord ++ [x] ++ R.inord → ∃ C k, Ending.returned (.tuple #[.slice C5 (L.size + 1 + R.size) k5, .int .i64 (u : Int)]) = .returned (.tuple #[.slice C N k, .int .i64 (u : Int)]) ∧ IOwn W.heap.size w5 C N k K ∧ Gr W w5 := by
      rintro N K rfl rfl
      exact ⟨C5, k5, rfl, O5.out, HB2.out.trans G5.out⟩
    exact hfin _ _ HT1.out HT2.out
end
end Go.Proofs.Ytpblonfcdnephaa
