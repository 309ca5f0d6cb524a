/-
  slices.Clone, order.Sort.
-/
import Derived.Test.YthldaebinchpdaaSortStable
import Derived.Test.YthldaebinchpdaaOrderKeys
import Derived.WalkSpells
namespace Go.Proofs.Ythldaebinchpdaa
open Go.ChangeShapes Go.WideShapes Go.ChangeAt Go.RowKit
set_option linter.unusedVariables false

/-- What is owned is a row that can be sorted. -/
theorem own_row {w : World} {base n : Nat} {v : Value} {l : List Nat} (hl : l.length = n) (hb : ∀ x ∈ l, F64 x) (h0 : 0 < n) (h : w.ownsRow base 22 1 v n (l.map (Value.float .f64))) :
    ∃ g m, v = .slice (some ⟨g, 0, none⟩) n m ∧ base ≤ g ∧ RowAt w g l ∧ n ≤ m ∧ m ≤ maxLen := by
  rcases h.2 with ⟨_, h1⟩ | ⟨g, cap, cur, rfl, hbg, hg, hnc, hcm, hs, ht⟩
  · omega
  · refine ⟨g, cap, rfl, hbg, ⟨hb, cur, hg, by omega, fun i x hx => ?_⟩, hnc, hcm⟩
    have hu : (l.map (Value.float .f64))[i]? = some (.float .f64 x) := by rw [List.getElem?_map, hx]; rfl
    rw [← ht, List.getElem?_take] at hu
    split at hu
    · simpa using hu
    · cases hu
theorem row_mem {w : World} {g n : Nat} {l : List Nat} (h : RowAt w g l) (hl : l.length = n) : FMem w (some ⟨g, 0, none⟩) n l :=
  ⟨hl, h.1, fun _ => ⟨g, 0, rfl, h.lt, fun j x hj => by
    obtain ⟨hj1, rfl⟩ := List.getElem?_eq_some_iff.1 hj
    rw [Nat.zero_add, h.cell hj1, G_lt hj1]⟩⟩

section
variable {A : Option Addr} {n c : Nat} {l : List Nat} {w : World}
/-- A row of the call's own. -/
def GotC (w : World) (n : Nat) (l : List Nat) (e : Ending) (w' : World) : Prop :=
  ∃ B m, e = .returned (.slice B n m) ∧ n ≤ m ∧ m ≤ maxLen ∧ Gr w w' ∧ (0 < n → ∃ g, B = some ⟨g, 0, none⟩ ∧ w.heap.size ≤ g ∧ RowAt w' g l)
set_option maxHeartbeats 2000000 in
theorem Clone_ok (hm : FMem w A n l) (hc : n ≤ c) (hn : n ≤ 60) : Calls Try.prog 25 #[.slice A n c] w (GotC w n l) := by
  have t := fun w => Lib.run_eql_slice_nil (P := Try.prog) w 23 22 A n c 0 0 Try.underlying23
  cases A with
  | none =>
    have hn0 : ¬ 0 < n := fun h => by obtain ⟨_, _, h, _⟩ := hm.2.2 h; cases h
    obtain rfl : n = 0 := by omega
    have G := Gr.refl w
    clear hm
    go_enter Try.func25, Try.ntmps25
    go_wp2_with fail
    go_ret
    exact ⟨none, 0, rfl, Nat.le_refl _, Nat.zero_le _, G, fun h => absurd h (by omega)⟩
  | some ad =>
    obtain ⟨i0, hi0, hz0, hz1, hz2⟩ := info_parts infoFloat
    have HM := Lib.hid hm
    have HZ := Lib.hid hz0
    have HZ1 := Lib.hid hz1
    have HZ2 := Lib.hid hz2
    have HI0 := Lib.hid hi0
    clear hz0 hz1 hz2 hi0 hm
    go_enter Try.func25, Try.ntmps25
    go_wp2_with (at_builtin; refine Mark.stop ?_)
    refine Mark.go ?_
    have o0 := own0 w _ rfl
    refine wpList_append_emem _ (Value.float .f64) F64 rfl (.tmp 5) (.tmp 6) 23 rfl (fun _ => rfl) w.heap.size 22 i0 (.float .f64 0) 8 Try.underlying23 HI0.out HZ.out HZ1.out HZ2.out rfl _ 0 [] rfl o0 (some ad) n c l rfl (HM.out.gr ((Gr.refl w).al _)) (by unfold maxLen; omega) (by omega) (by simp) ?_
    intro v1 w3 own1 gb1
    simp only [Nat.zero_add, List.nil_append] at own1
    have G3 : Gr w w3 := ((Gr.refl w).al _).gb gb1 (fun k hk => (o0.lt k hk).1)
    obtain ⟨B, m, rfl, _, h1, h2⟩ := own_emem (ok := F64) HM.out.len HM.out.all own1
    have HQ := Lib.hid (show 0 < n → ∃ g, B = some ⟨g, 0, none⟩ ∧ w.heap.size ≤ g ∧ RowAt w3 g l from fun h0 => by
      obtain ⟨g, m', hv, hg, hr, _⟩ := own_row HM.out.len HM.out.all h0 own1
      exact ⟨g, by injection hv, hg, hr⟩)
    clear own1 gb1 o0 t
    go_wp2_with fail
    go_ret
    exact ⟨B, m, rfl, h1, h2, G3, HQ.out⟩

theorem stable_none (B : Option Addr) (m hb : Nat) (w : World) : Calls Try.prog 28 #[.slice B 0 m, .int .i64 0, cmpF hb] w fun e w' => e = .returned (.tuple #[]) ∧ w' = w := by
  go_enter Try.func28, Try.ntmps28
  go_wp2_with fail
  refine wp_loop_rounds 1 ?_
  rw [rounds_succ]
  go_wp2_with go_in
  refine wp_loop_rounds 1 ?_
  rw [rounds_succ]
  go_wp2_with go_in
  refine wp_loop_rounds 1 ?_
  rw [rounds_succ]
  go_wp2_with fail
  go_end0
  exact ⟨rfl, rfl⟩

/-- A new row, in order, of the same floats. -/
def GotS (w : World) (n : Nat) (l : List Nat) (e : Ending) (w' : World) : Prop :=
  ∃ B m l', e = .returned (.slice B n m) ∧ FMem w' B n l' ∧ l'.Perm l ∧ Sd l' 0 n ∧ n ≤ m ∧ m ≤ maxLen ∧ Gr w w'
theorem Gr.onl {w w1 w2 : World} {g : Nat} (h : Gr w w1) (o : Onl g w1 w2) (hg : w.heap.size ≤ g) : Gr w w2 := h.gb o (fun k hk => by cases hk; exact hg)
set_option maxHeartbeats 2000000 in
theorem SortStable_ok {g hb m : Nat} (hr : RowAt w g l) (hl : l.length = n) (hn : n ≤ 60) (hx : Box w hb) (hg : hb ≠ g) :
    Calls Try.prog 26 #[.slice (some ⟨g, 0, none⟩) n m, cmpF hb] w (Left g w fun l' => Upd 0 n l l' ∧ Sd l' 0 n) := by
  have k := Lib.hid (stable_ok (c := m) hr hl hn hx hg)
  clear hr hl hn hx hg
  go_enter Try.func26, Try.ntmps26
  go_wp2_with fail
  refine k.out.mono ?_
  rintro e w1 ⟨rfl, l1, R1, O1, U1, S1⟩
  go_wp2_with fail
  go_end0
  exact ⟨rfl, l1, R1, O1, U1, S1⟩
set_option maxHeartbeats 2000000 in
theorem SortStable_none (B : Option Addr) (m hb : Nat) (w : World) :
    Calls Try.prog 26 #[.slice B 0 m, cmpF hb] w fun e w' => e = .returned (.tuple #[]) ∧ w' = w := by
  have k := Lib.hid (stable_none B m hb w)
  go_enter Try.func26, Try.ntmps26
  go_wp2_with fail
  refine k.out.mono ?_
  rintro e w1 ⟨rfl, rfl⟩
  go_wp2_with fail
  go_end0
  exact ⟨rfl, rfl⟩
set_option maxHeartbeats 2000000 in
theorem ordered_ok (hm : FMem w A n l) (hc : n ≤ c) (hn : n ≤ 60) :
    Calls Try.prog 24 #[.slice A n c, .func (.func 12) #[] #[]] w (GotS w n l) := by
  have k1 := fun o => Lib.hid (Clone_ok (c := c) (hm.gr ((Gr.refl w).al o)) hc hn)
  have HL := Lib.hid hm.len
  have HF := Lib.hid hm.all
  clear hm
  go_enter Try.func24, Try.ntmps24
  go_wp2_with fail
  refine (k1 _).out.mono ?_
  rintro e w1 ⟨B, m, rfl, hnm, hmm, G1, HR⟩
  have G := ((Gr.refl w).al _).trans G1
  rcases Nat.eq_zero_or_pos n with h0 | h0
  · subst h0
    have k2 := fun hb w => Lib.hid (SortStable_none B m hb w)
    have hl : l = [] := List.eq_nil_of_length_eq_zero HL.out
    have HN := Lib.hid hl
    clear HR hl k1
    go_wp2_with fail
    refine (k2 _ _).out.mono ?_
    rintro e w2 ⟨rfl, rfl⟩
    go_wp2_with fail
    go_ret
    exact ⟨B, m, [], rfl, ⟨rfl, by simp, fun h => absurd h (by omega)⟩, by rw [HN.out], fun i j h1 h2 h3 => by omega, hnm, hmm, G⟩
  · obtain ⟨g, rfl, hgs, hr⟩ := HR h0
    have hbx : Box w1 w.heap.size := (G1.cell (p := ⟨w.heap.size, 0, none⟩) (by simp)).trans (by simp)
    have hne : w.heap.size ≠ g := by simp at hgs; omega
    have hgw : w.heap.size ≤ g := by simp at hgs; omega
    have k2 := Lib.hid (SortStable_ok (m := m) hr HL.out hn hbx hne)
    clear HR hr hbx k1 G1 hgs hne
    go_wp2_with fail
    refine k2.out.mono ?_
    rintro e w2 ⟨rfl, l2, R2, O2, U2, S2⟩
    have HU := Lib.hid U2
    have HS := Lib.hid S2
    clear U2 S2 k2
    go_wp2_with fail
    go_ret
    exact ⟨_, m, l2, rfl, row_mem R2 (HU.out.len.trans HL.out), HU.out.perm, HS.out, hnm, hmm, G.onl O2 hgw⟩
set_option maxHeartbeats 1000000 in
theorem Sort_ok (hm : FMem w A n l) (hc : n ≤ c) (hn : n ≤ 60) : Calls Try.prog 15 #[.slice A n c] w (GotS w n l) := by
  have k := Lib.hid (ordered_ok (c := c) hm hc hn)
  clear hm
  go_enter Try.func15, Try.ntmps15
  go_wp2_with fail
  refine k.out.mono ?_
  rintro e w1 ⟨B, m, l', rfl, h1, h2, h3, h4, h5, G⟩
  have H2 := Lib.hid h2
  have H1 := Lib.hid h1
  have H3 := Lib.hid h3
  clear h1 h2 h3
  go_wp2_with fail
  go_ret
  exact ⟨B, m, l', rfl, H1.out, H2.out, H3.out, h4, h5, G⟩
end
end Go.Proofs.Ythldaebinchpdaa
