/-
  Package park: what a change does with the one that was chosen.
-/
import Derived.Test.YtgloccbcbgpneaaPark
namespace Go.Proofs.Ytgloccbcbgpneaa
open Go.ChangeShapes Go.WideShapes Go.ChangeAt Go.RowKit
set_option linter.unusedVariables false
namespace P11

theorem set_same {l : List G} {k : Nat} {x : G} (h : l[k]? = some x) : l.set k x = l := by
  obtain ⟨hk, rfl⟩ := List.getElem?_eq_some_iff.1 h
  exact List.set_getElem_self hk
theorem get_set {l : List G} {k : Nat} {x y : G} (h : l[k]? = some x) : (l.set k y)[k]? = some y := by
  obtain ⟨hk, _⟩ := List.getElem?_eq_some_iff.1 h
  rw [List.getElem?_set_self hk]

set_option maxHeartbeats 1000000 in
theorem park_is : ChgIs 25 pkG := by
  intro w base cp g k l x hC hx hb
  obtain ⟨c1, q0, q1, f0, f1, hlc, hlg⟩ := hC.facts hx
  obtain ⟨s, p⟩ := x
  have HC := Lib.hid hC
  have HX := Lib.hid hx
  clear hC hx
  by_cases hs : s = 0
  · subst hs
    cases p
    · have S1 := HC.out.set1 HX.out 1
      have S2 := S1.set2 (get_set HX.out) false
      rw [List.set_set] at S2
      have H2 := Lib.hid S2
      clear S1 S2
      go_enter Try.func25, Try.ntmps25
      go_wp2_with fail
      go_ret
      exact ⟨rfl, Below.setCell (Below.setCell (Below.refl _ _) hb _) hb _, H2.out⟩
    · have S2 := Lib.hid (HC.out.set2 HX.out false)
      go_enter Try.func25, Try.ntmps25
      go_wp2_with fail
      go_ret
      exact ⟨rfl, Below.setCell (Below.refl _ _) hb _, S2.out⟩
  · have ne : (s == 0) = false := beq_eq_false_iff_ne.2 hs
    have HP := Lib.hid (show pkG (s, p) = (6, (s, p)) by simp [pkG, hs])
    have HL := Lib.hid (chg_no (l := l) (k := k) HP.out (by omega))
    go_enter Try.func25, Try.ntmps25
    go_wp2_with fail
    go_ret
    rw [HL.out, HP.out]
    exact ⟨rfl, Below.refl _ _, HC.out⟩
set_option maxHeartbeats 1000000 in
theorem end_is : ChgIs 27 enG := by
  intro w base cp g k l x hC hx hb
  obtain ⟨c1, q0, q1, f0, f1, hlc, hlg⟩ := hC.facts hx
  obtain ⟨s, p⟩ := x
  have HC := Lib.hid hC
  have HX := Lib.hid hx
  clear hC hx
  by_cases hs : s = 0
  · subst hs
    have S1 := HC.out.set1 HX.out 2
    have S2 := S1.set2 (get_set HX.out) false
    rw [List.set_set] at S2
    have H2 := Lib.hid S2
    clear S1 S2
    go_enter Try.func27, Try.ntmps27
    go_wp2_with fail
    go_ret
    exact ⟨rfl, Below.setCell (Below.setCell (Below.refl _ _) hb _) hb _, H2.out⟩
  · have ne : (s == 0) = false := beq_eq_false_iff_ne.2 hs
    have HP := Lib.hid (show enG (s, p) = (6, (s, p)) by simp [enG, hs])
    have HL := Lib.hid (chg_no (l := l) (k := k) HP.out (by omega))
    go_enter Try.func27, Try.ntmps27
    go_wp2_with fail
    go_ret
    rw [HL.out, HP.out]
    exact ⟨rfl, Below.refl _ _, HC.out⟩
set_option maxHeartbeats 1000000 in
theorem ready_is : ChgIs 26 rdG := by
  intro w base cp g k l x hC hx hb
  obtain ⟨c1, q0, q1, f0, f1, hlc, hlg⟩ := hC.facts hx
  obtain ⟨s, p⟩ := x
  have HC := Lib.hid hC
  have HX := Lib.hid hx
  clear hC hx
  by_cases hs : s = 2
  · subst hs
    have HP := Lib.hid (show rdG (2, p) = (6, (2, p)) by simp [rdG])
    have HL := Lib.hid (chg_no (l := l) (k := k) HP.out (by omega))
    go_enter Try.func26, Try.ntmps26
    go_wp2_with fail
    go_ret
    rw [HL.out, HP.out]
    exact ⟨rfl, Below.refl _ _, HC.out⟩
  · have ne : (s == 2) = false := beq_eq_false_iff_ne.2 hs
    cases p
    · obtain ⟨B, hB⟩ : ∃ B, (s == 0) = B := ⟨_, rfl⟩
      have S1 := (HC.out.set2 HX.out B).drew
      have S2 := S1.set1 (get_set HX.out) 0
      rw [List.set_set] at S2
      have H2 := Lib.hid S2
      have HP := Lib.hid (show rdG (s, false) = (0, (0, B)) by simp [rdG, hs, hB])
      have HL := Lib.hid (chg_yes (l := l) (k := k) HP.out)
      obtain ⟨d1, r0, r1, z0, z1, hld, hle⟩ := S1.facts (get_set HX.out)
      clear S1 S2
      go_enter Try.func26, Try.ntmps26
      go_wp2_with fail
      go_region
      have G1 := Below.drew (Below.setCell (Below.refl base w) (p := ⟨g, k * 2 + 1, none⟩) hb (.bool B))
      generalize (w.setCell ⟨g, k * 2 + 1, none⟩ (.bool B)).drew = W at *
      go_wp2_with fail
      go_ret
      rw [HL.out, HP.out]
      exact ⟨rfl, Below.setCell G1 hb _, H2.out⟩
    · have HP := Lib.hid (show rdG (s, true) = (7, (s, true)) by simp [rdG, hs])
      have HL := Lib.hid (chg_no (l := l) (k := k) HP.out (by omega))
      go_enter Try.func26, Try.ntmps26
      go_wp2_with fail
      go_ret
      rw [HL.out, HP.out]
      exact ⟨rfl, Below.refl _ _, HC.out⟩

/-- What a call answers: an error or none, and a row in new blocks. -/
def Got (w : World) (r : Int × List G) (e : Ending) (w' : World) : Prop :=
  ∃ B m, e = .returned (.tuple #[.slice B r.2.length m, .int .i64 r.1]) ∧ GMem w' B r.2.length r.2 ∧ Late w.heap.size B ∧ r.2.length ≤ m ∧ Gr w w'

section
variable {A : Option Addr} {n c : Nat} {l : List G} {w : World}
set_option maxHeartbeats 1000000 in
theorem choose_arg {who : Int} (hn : n ≤ 9223372036854775807) (hr : rightB l = false) (hm : GMem w A n l) :
    Calls Try.prog 23 #[.slice A n c, .int .i64 who] w fun e w' => ∃ cp, e = .returned (.pointer (some ⟨cp, 0, none⟩)) ∧ w.heap.size ≤ cp ∧ Blk w' cp #[.slice none 0 0, .pointer none, .int .i64 1] 53 ∧ Gr w w' := by
  have cc := Lib.hid (Right_is (c := c) hr hn w hm)
  clear hr hm
  go_enter Try.func23, Try.ntmps23
  go_wp2_with fail
  refine cc.out.mono ?_
  rintro e w1 ⟨rfl, b1⟩
  go_wp2_with fail
  go_ret
  exact ⟨_, rfl, b1.size, Blk.new _ _ _, b1.al _⟩
set_option maxHeartbeats 1000000 in
theorem choose_range {who : Int} (hn : n ≤ 9223372036854775807) (hr : rightB l = true) (hw : who < 0 ∨ n ≤ who) (hm : GMem w A n l) :
    Calls Try.prog 23 #[.slice A n c, .int .i64 who] w fun e w' => ∃ cp, e = .returned (.pointer (some ⟨cp, 0, none⟩)) ∧ w.heap.size ≤ cp ∧ Blk w' cp #[.slice none 0 0, .pointer none, .int .i64 3] 53 ∧ Gr w w' := by
  have cc := Lib.hid (Right_is (c := c) hr hn w hm)
  clear hr hm
  rcases hw with hw | hw
  · go_enter Try.func23, Try.ntmps23
    go_wp2_with fail
    refine cc.out.mono ?_
    rintro e w1 ⟨rfl, b1⟩
    go_wp2_with fail
    go_ret
    exact ⟨_, rfl, b1.size, Blk.new _ _ _, b1.al _⟩
  · have h0 : decide (who < 0) = false := by simp; omega
    go_enter Try.func23, Try.ntmps23
    go_wp2_with fail
    refine cc.out.mono ?_
    rintro e w1 ⟨rfl, b1⟩
    go_wp2_with fail
    go_ret
    exact ⟨_, rfl, b1.size, Blk.new _ _ _, b1.al _⟩
set_option maxHeartbeats 2000000 in
theorem choose_ok {k : Nat} (hn : n ≤ 9223372036854775807) (hr : rightB l = true) (hk : k < n) (hm : GMem w A n l) :
    Calls Try.prog 23 #[.slice A n c, .int .i64 (k : Int)] w fun e w' => ∃ cp g, e = .returned (.pointer (some ⟨cp, 0, none⟩)) ∧ w.heap.size ≤ cp ∧ w.heap.size ≤ g ∧ Chosen w' cp g k l ∧ Gr w w' := by
  have h8 : n ≤ 8 := by have := hm.1; simp [rightB] at hr; omega
  have cc := Lib.hid (Right_is (c := c) hr hn w hm)
  obtain ⟨i0, hi0, hz0, hz1, hz2⟩ := info_parts infoGor
  have hmk := fun w => run_makeN (P := Try.prog) 22 40 i0 _ Try.underlying22 hi0 hz0 n (by rw [hz2]; omega) (by omega) w
  rw [hz1] at hmk
  obtain ⟨M, hM⟩ : ∃ M, madeCells (Value.agg #[.int .i64 0, .bool false]).cells (n * 2) = M := ⟨_, rfl⟩
  have hMs : M.size = n * 2 := by rw [← hM, size_madeCells]
  rw [hM] at hmk
  have k0 : (0 : Int) ≤ (k : Int) := by omega
  have k1 : (k : Int) < (n : Int) := by omega
  have k2 : decide ((k : Int) < 0) = false := by simp
  have k3 : decide (n ≤ k) = false := by simp; omega
  have HMs := Lib.hid hMs
  have hsz := Lib.hid (show (Try.prog.info? 40).map (·.size) = some 2 by rw [hi0]; simp [hz1])
  obtain ⟨b, off, rfl, hbl, hcells⟩ := hm.2.2 (by omega)
  have HC := Lib.hid hcells
  have HL := Lib.hid hm.1
  have hfl := Lib.hid (flat_len l)
  clear hr hm hi0 hz0 hz1 hz2 hcells hM hMs
  go_enter Try.func23, Try.ntmps23
  go_wp2_with fail
  refine cc.out.mono ?_
  rintro e w1 ⟨rfl, b1⟩
  have hz : b < w1.heap.size := Nat.lt_of_lt_of_le hbl b1.size
  go_wp2_with (with_reducible refine wpList_copyN rfl (.tmp 26) (.tmp 27) 22 22 rfl 40 2 Try.underlying22 hsz.out w1.heap.size n n b off c rfl rfl M 40 ?hg (flat l) ?hn ?hs ?hf (flat_one l) ?_)
  case hg => exact heap_alloc_new w1 _
  case hn => rw [hfl.out, HL.out]
  case hf => rw [hfl.out, HL.out, HMs.out]
  case hs =>
    intro j v hv
    exact (((Gr.refl w1).al _).cell (p := ⟨b, off + j, none⟩) hz).trans ((b1.cell (p := ⟨b, off + j, none⟩) hbl).trans (HC.out j v hv))
  intro w2 HG hB2 hS2
  have HS2 := Lib.hid (show w2.heap.size = w1.heap.size + 1 by simpa using hS2)
  have hG2 : Gr w w2 := (b1.al _).trans' (hB2.mono b1.size)
  clear hS2 hB2
  have X : Blk w2 w1.heap.size (flat l).toArray 40 := HG.out
  go_wp2_with fail
  go_ret
  refine ⟨_, _, rfl, hG2.size, b1.size, ⟨by rw [HS2.out]; omega, ?_, _, X.al _, by simp⟩, hG2.al _⟩
  rw [HL.out]
  exact Blk.new _ _ _
end

/-- after, where nobody was chosen. -/
theorem got_err {w w' : World} (q : Int) (h : Gr w w') : Got w (q, []) (.returned (.tuple #[.slice none 0 0, .int .i64 q])) w' :=
  ⟨none, 0, rfl, GMem.nil_, (fun k hk => by cases hk), Nat.le_refl _, h⟩
set_option maxHeartbeats 1000000 in
theorem after_no {w : World} {cp : Nat} {f : Value} {q : Int} (hq : q = 1 ∨ q = 3) (hc : Blk w cp #[.slice none 0 0, .pointer none, .int .i64 q] 53) :
    Calls Try.prog 24 #[.pointer (some ⟨cp, 0, none⟩), f] w fun e w' => e = .returned (.tuple #[.slice none 0 0, .int .i64 q]) ∧ Gr w w' := by
  obtain ⟨c2, _⟩ := hc.at_ (k := 2) rfl
  have hl := hc.lt
  clear hc
  rcases hq with rfl | rfl
  all_goals (
    go_enter Try.func24, Try.ntmps24
    go_wp2_with fail
    go_quiet (fail)
    go_wp2_with fail
    go_ret2
    exact ⟨rfl, (Gr.refl w).drN _⟩)
set_option maxHeartbeats 1000000 in
/-- after, where the change says no. -/
theorem after_err {w : World} {F cp g k base : Nat} {p : G → Int × G} {l : List G} {x : G} {q : Int} (eg : ∀ args w, (callFunc F args).run Try.prog w = .ok (.enter F args) w) (hF : ChgIs F p) (hC : Chosen w cp g k l) (hx : l[k]? = some x) (hb : base ≤ g)
    (hr : (p x).1 = q) (hq : q = 6 ∨ q = 7) :
    Calls Try.prog 24 #[.pointer (some ⟨cp, 0, none⟩), .func (.func F) #[.pointer (some ⟨cp, 0, none⟩)] #[]] w fun e w' =>
      e = .returned (.tuple #[.slice none 0 0, .int .i64 q]) ∧ Below base w w' := by
  have H1 := Lib.hid (hF w base cp g k l x hC hx hb)
  rw [hr] at H1
  have c2 := (hC.2.1.at_ (k := 2) rfl).1
  have hl := hC.2.1.lt
  clear hF hC hx hr
  rcases hq with rfl | rfl
  all_goals (
    go_enter Try.func24, Try.ntmps24
    go_wp2_with fail
    with_reducible refine H1.out.mono ?_
    rintro ee w1 ⟨rfl, b1, _⟩
    go_wp2_with fail
    go_ret2
    exact ⟨rfl, b1⟩)
set_option maxHeartbeats 1000000 in
/-- after, where the change is made. -/
theorem after_yes {w : World} {F cp g k base : Nat} {p : G → Int × G} {l : List G} {x y : G} (eg : ∀ args w, (callFunc F args).run Try.prog w = .ok (.enter F args) w) (hF : ChgIs F p) (hC : Chosen w cp g k l) (hx : l[k]? = some x) (hb : base ≤ g)
    (hr : p x = (0, y)) :
    Calls Try.prog 24 #[.pointer (some ⟨cp, 0, none⟩), .func (.func F) #[.pointer (some ⟨cp, 0, none⟩)] #[]] w fun e w' =>
      e = .returned (.tuple #[.slice (some ⟨g, 0, none⟩) l.length l.length, .int .i64 0]) ∧ Below base w w' ∧ ∃ vs, Blk w' g vs 40 ∧ vs.toList = flat (l.set k y) := by
  have H1 := Lib.hid (hF w base cp g k l x hC hx hb)
  rw [chg_yes hr, hr] at H1
  have c2 := (hC.2.1.at_ (k := 2) rfl).1
  have hl := hC.2.1.lt
  clear hF hC hx hr
  go_enter Try.func24, Try.ntmps24
  go_wp2_with fail
  with_reducible refine H1.out.mono ?_
  rintro ee w1 ⟨rfl, b1, hne, h1, h2⟩
  rw [List.length_set] at h1
  have d0 := (h1.at_ (k := 0) rfl).1
  have hl1 := h1.lt
  have H2 := Lib.hid h2
  clear h1 h2
  go_wp2_with fail
  go_ret2
  exact ⟨rfl, b1, H2.out⟩
end P11
end Go.Proofs.Ytgloccbcbgpneaa
