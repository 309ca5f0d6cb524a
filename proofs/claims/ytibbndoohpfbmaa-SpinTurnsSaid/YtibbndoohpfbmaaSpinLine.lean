/-
  Who waits for a turn: the row of drawn tickets; []bool and []int as rows.
-/
import Derived.Test.YtibbndoohpfbmaaSpinMath
import Derived.Test.YtibbndoohpfbmaaOpenRow
import Derived.Test.YtibbndoohpfbmaaOwn
import Derived.Deep.RegionHeld3
namespace Go.Proofs.Ytibbndoohpfbmaa
open Go.ChangeShapes Go.WideShapes Go.ChangeAt Go.RowKit
set_option linter.unusedVariables false

abbrev BMem := EMem Value.bool (fun _ => True)
abbrev IMem := EMem (Value.int .i64) B64
abbrev IOwn := OMem (Value.int .i64) B64
theorem infoInt : (Try.prog.info? 3).map (fun i => (i.zero, i.size, i.bytes)) = some (some (.int .i64 0), 1, 8) := by kernel_rfl
theorem cellsOfBool : Try.prog.cellsOf 4 = 1 := by kernel_rfl
theorem trod_boolean {H : Type} {enc : TypeId × Value → H} {P : Program} {W : World} {sp : Nat → Bool} {t : TypeId} {m : Nat} {cs : List Value} {y : DataW H × List MemPlace} (ht : P.underlying t = some .bool) (h : DataW.trod enc P W 0 sp true m t cs = some y) : ∃ b, cs = [.bool b] := by
  obtain ⟨b, hb, _⟩ := DataW.trod_bool ht h
  exact ⟨b, hb⟩
theorem open_bools {H : Type} {enc : TypeId × Value → H} {W : World} {base : Nat} {sp : Nat → Bool} {v : Value} {d : DataW H} {ps : List MemPlace}
    (hval : Value.okWide Try.prog W .any base 42 v) (h : DataW.Trod enc Try.prog W 0 sp true 42 v d ps) :
    ∃ (A : Option Addr) (n c : Nat) (l : List Bool), v = .slice A n c ∧ n ≤ c ∧ n ≤ 9223372036854775807 ∧ BMem W A n l :=
  open_emem Try.underlying42 cellsOfBool (fun m cs y hy => by
    obtain ⟨b, rfl⟩ := trod_boolean Try.underlying4 hy
    exact ⟨b, rfl, trivial⟩) hval h

section
variable {α : Type} {enc : α → Value} {ok : α → Prop} {base : Nat} {w w' : World} {A : Option Addr} {n c : Nat} {l : List α}
theorem OMem.lt (h : OMem enc ok base w A n c l) : ∀ k, A.map (·.block) = some k → base ≤ k ∧ k < w.heap.size := by
  intro k hk
  rcases h.2.2.2 with ⟨rfl, _⟩ | ⟨b, off, rfl, h5, h6, _⟩
  · cases hk
  · cases hk
    exact ⟨h5, h6⟩
theorem emem_one (w : World) (x : α) (hx : ok x) (t : TypeId) : EMem enc ok (w.alloc (.cells #[enc x] t)) (some ⟨w.heap.size, 0, none⟩) 1 [x] :=
  ⟨rfl, fun y hy => by simp at hy; subst hy; exact hx, fun _ => ⟨_, 0, rfl, by simp, fun j u hu => by
    match j, hu with
    | 0, hu => simp at hu; subst hu; simp⟩⟩
theorem emem_one' (w : World) (x : α) (hx : ok x) (t : TypeId) {s : Nat} (hs : w.heap.size = s) : EMem enc ok (w.alloc (.cells #[enc x] t)) (some ⟨s, 0, none⟩) 1 [x] := hs ▸ emem_one w x hx t
theorem emem_oneD (w : World) (x : α) (hx : ok x) (t : TypeId) {s : Nat} (hs : w.heap.size = s) : EMem enc ok (w.alloc (.cells #[enc x] t)).drew (some ⟨s, 0, none⟩) 1 [x] := emem_one' w x hx t hs
theorem Two.gb {w w' : World} {g : Nat} {n s : Int} {row : Option Nat} (h : Two w g n s) (hg : w.grownBy w' row) (hr : ∀ k, row = some k → k ≠ g) : Two w' g n s :=
  (hg.block g h.lt (fun e => hr g e.symm rfl)).trans h
end
/-- The tickets of k who wait, dn being done. -/
def ln (F : Int) (dn k : Nat) : List Int := (List.range k).map fun i => atN 1 F (dn + i)
theorem ln_len (F : Int) (dn k : Nat) : (ln F dn k).length = k := by simp [ln]
theorem ln_get {F : Int} {dn k j : Nat} (h : j < k) : (ln F dn k)[j]? = some (atN 1 F (dn + j)) := by simp [ln, h]
theorem ln_more (F : Int) (dn k : Nat) : ln F dn k ++ [atN 1 F (dn + k)] = ln F dn (k + 1) := by simp [ln, List.range_succ]
theorem ln_drop (F : Int) (dn k : Nat) : (ln F dn k).drop 1 = ln F (dn + 1) (k - 1) := by
  apply List.ext_getElem?
  intro j
  rw [List.getElem?_drop]
  by_cases h : j < k - 1
  · rw [ln_get h, ln_get (by omega)]
    congr 2; omega
  · rw [List.getElem?_eq_none (by rw [ln_len]; omega), List.getElem?_eq_none (by rw [ln_len]; omega)]

theorem tk_at (F : Int) (a b : Nat) : tkB (atN 1 F a) (atN 1 F b) = true := (tk_iff _ _).2 ⟨by rw [at1_eq]; omega, by rw [at1_eq]; omega⟩
theorem out_at (F : Int) (dn k : Nat) (h : k < 4294967296) : outT (atN 1 F (dn + k)) (atN 1 F dn) = (k : Int) := by
  rw [outT_eq, at1_eq, at1_eq]
  omega
theorem Draw_at (F : Int) (dn k : Nat) (h : k < 4294967295) (w : World) : Calls Try.prog 7 #[.agg #[.int .i64 (atN 1 F (dn + k)), .int .i64 (atN 1 F dn)]] w fun e w' => e = .returned (.tuple #[.agg #[.int .i64 (atN 1 F (dn + (k + 1))), .int .i64 (atN 1 F dn)], .int .i64 (atN 1 F (dn + k)), .int .i64 0]) ∧ Gr w w' :=
  Draw_is (.inr (.inr ⟨tk_at F _ _, by rw [out_at F dn k (by omega)]; omega, (atN_succ 1 F (dn + k)).symm, rfl, rfl, rfl⟩)) (at1_b F _) (at1_b F _) w
theorem Done_at (F : Int) (dn k : Nat) (h0 : 0 < k) (h : k < 4294967295) (w : World) : Calls Try.prog 9 #[.agg #[.int .i64 (atN 1 F (dn + k)), .int .i64 (atN 1 F dn)]] w fun e w' => e = .returned (.tuple #[.agg #[.int .i64 (atN 1 F (dn + 1 + (k - 1))), .int .i64 (atN 1 F (dn + 1))], .int .i64 0]) ∧ Gr w w' :=
  Done_is (.inr (.inr ⟨tk_at F _ _, by rw [out_at F dn k (by omega)]; omega, by rw [show dn + 1 + (k - 1) = dn + k from by omega], (atN_succ 1 F dn).symm, rfl⟩)) (at1_b F _) (at1_b F _) w
theorem Done_at0 (F : Int) (dn : Nat) (w : World) : Calls Try.prog 9 #[.agg #[.int .i64 (atN 1 F (dn + 0)), .int .i64 (atN 1 F dn)]] w fun e w' => e = .returned (.tuple #[.agg #[.int .i64 0, .int .i64 0], .int .i64 6]) ∧ Gr w w' :=
  Done_is (.inr (.inl ⟨tk_at F _ _, out_at F dn 0 (by omega), rfl, rfl, rfl⟩)) (at1_b F _) (at1_b F _) w
theorem Out_at (F : Int) (dn k : Nat) (h : k < 4294967295) (w : World) : Calls Try.prog 10 #[.agg #[.int .i64 (atN 1 F (dn + k)), .int .i64 (atN 1 F dn)]] w fun e w' => e = .returned (.tuple #[.int .i64 (k : Int), .int .i64 0]) ∧ Gr w w' :=
  Out_is (.inl ⟨tk_at F _ _, out_at F dn k (by omega), rfl⟩) (at1_b F _) (at1_b F _) w
theorem Turn_at (F : Int) (dn k j : Nat) (h : j < 4294967295) (w : World) : Calls Try.prog 8 #[.agg #[.int .i64 (atN 1 F (dn + k)), .int .i64 (atN 1 F dn)], .int .i64 (atN 1 F (dn + j))] w fun e w' => e = .returned (.tuple #[.bool (((j : Int)) == 0), .int .i64 0]) ∧ Gr w w' :=
  Turn_is (.inl ⟨tk_at F _ _, by
    by_cases hj : j = 0
    · subst hj; simp
    · rw [beq_eq_false_iff_ne.2 (show (j : Int) ≠ 0 by omega), beq_eq_false_iff_ne.2 (by rw [at1_eq, at1_eq]; omega)], rfl⟩) (at1_b F _) (at1_b F _) w
end Go.Proofs.Ytibbndoohpfbmaa
