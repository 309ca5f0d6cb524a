/-
  Package park: Right, and what a change does with the one that was chosen.
-/
import Derived.Test.YtgloccbcbgpneaaGor
import Derived.Deep.RegionHeld3
import Derived.RegionTactic
namespace Go.Proofs.Ytgloccbcbgpneaa
open Go.ChangeShapes Go.WideShapes Go.ChangeAt Go.RowKit
set_option linter.unusedVariables false
namespace P11

set_option maxHeartbeats 1000000 in
theorem unfit_ok (x : G) (w : World) : Calls Try.prog 29 #[.agg #[.int .i64 x.1, .bool x.2]] w fun e w' => e = .returned (.bool (!okG x)) ∧ Gr w w' := by
  obtain ⟨s, p⟩ := x
  by_cases h0 : s < 0
  · have HO := Lib.hid (show okG (s, p) = false by simp [okG]; omega)
    go_enter Try.func29, Try.ntmps29
    go_wp2_with fail
    go_ret
    rw [HO.out]
    exact ⟨rfl, (Gr.refl w).al _⟩
  · by_cases h2 : 2 < s
    · have HO := Lib.hid (show okG (s, p) = false by simp [okG]; omega)
      go_enter Try.func29, Try.ntmps29
      go_wp2_with fail
      go_ret
      rw [HO.out]
      exact ⟨rfl, (Gr.refl w).al _⟩
    · cases p
      · have HO := Lib.hid (show okG (s, false) = true by simp [okG]; omega)
        go_enter Try.func29, Try.ntmps29
        go_wp2_with fail
        go_ret
        rw [HO.out]
        exact ⟨rfl, (Gr.refl w).al _⟩
      · have hz : (s == 0) = okG (s, true) := by simp only [okG]; rw [decide_eq_true (by omega), decide_eq_true (by omega)]; simp
        have HZ := Lib.hid hz
        obtain ⟨B, hB⟩ : ∃ B, (s == 0) = B := ⟨_, rfl⟩
        have hB' : (s != 0) = !B := by simp [bne, hB]
        rw [hB] at HZ
        clear hz
        go_enter Try.func29, Try.ntmps29
        go_wp2_with fail
        go_ret
        rw [← HZ.out]
        exact ⟨rfl, (Gr.refl w).al _⟩

/-- Where the first one stands that may not be, or -1. -/
def badAt : List G → Nat → Int
  | [], _ => -1
  | x :: r, k => if okG x then badAt r (k + 1) else k
theorem unfit_is {x : G} {B : Bool} (h : okG x = B) (w : World) : Calls Try.prog 29 #[.agg #[.int .i64 x.1, .bool x.2]] w fun e w' => e = .returned (.bool (!B)) ∧ Gr w w' := h ▸ unfit_ok x w

set_option maxHeartbeats 1000000 in
theorem IndexFunc_ok (A : Option Addr) (n c : Nat) (l : List G) (w : World) (hm : GMem w A n l) (hn : n ≤ 9223372036854775807) :
    Calls Try.prog 31 #[.slice A n c, .func (.func 29) #[] #[]] w fun e w' => e = .returned (.int .i64 (badAt l 0)) ∧ Gr w w' := by
  go_enter Try.func31, Try.ntmps31
  go_wp2_with fail
  go_loopw [8] (fun i wr => ∃ k : Nat, k ≤ n ∧ i = .int .i64 k ∧ Hid (badAt (l.drop k) k = badAt l 0) ∧ Gr w wr) (fun i _ => n - (intOf i).toNat)
  case atStart => exact ⟨0, Nat.zero_le _, rfl, Lib.hid rfl, Gr.refl _⟩
  case round =>
    obtain ⟨k, hk, rfl, HB, hg⟩ := hrel
    by_cases hlt : k < n
    · obtain ⟨b, off, x, rfl, hbl, hx, h1, c0, c1⟩ := (hm.gr hg).at_ hlt
      have hd : l.drop k = x :: l.drop (k + 1) := by
        obtain ⟨hl, rfl⟩ := List.getElem?_eq_some_iff.1 hx
        exact List.drop_eq_getElem_cons hl
      cases hf : okG x
      · have hr : badAt l 0 = (k : Int) := by rw [← HB.out, hd]; simp [badAt, hf]
        have cc := fun w => Lib.hid (unfit_is hf w)
        have HR := Lib.hid hr
        clear hr hd hf hx HB hm
        go_wp2_with fail
        refine (cc _).out.mono ?_
        rintro e w1 ⟨rfl, hb1⟩
        go_wp2_with fail
        go_ret
        rw [HR.out]
        exact ⟨rfl, hg.trans hb1⟩
      · have hr : Hid (badAt (l.drop (k + 1)) (k + 1) = badAt l 0) := Lib.hid (by rw [← HB.out, hd]; simp [badAt, hf])
        have cc := fun w => Lib.hid (unfit_is hf w)
        clear hd hf hx HB hm
        go_wp2_with fail
        refine (cc _).out.mono ?_
        rintro e w1 ⟨rfl, hb1⟩
        go_wp2_with fail
        go_roundw
        case rel => exact ⟨k + 1, by omega, by go_num, hr, hg.trans hb1⟩
        case measure => simp [intOf]; omega
    · obtain rfl : k = n := by omega
      have hr : badAt l 0 = -1 := by rw [← HB.out, List.drop_of_length_le (by have := hm.1; omega)]; rfl
      have HR := Lib.hid hr
      clear hr HB hm
      go_wp2_with fail
      go_ret
      rw [HR.out]
      exact ⟨rfl, hg⟩

theorem badAt_is (l : List G) : ∀ k : Nat, decide (0 ≤ badAt l k) = !l.all okG := by
  induction l with
  | nil => intro k; rfl
  | cons x r ih =>
    intro k
    unfold badAt
    cases hx : okG x
    · simp [hx]
    · simp [hx, ih]
theorem ret_bool {a b : Bool} (h : a = b) : Ending.returned (.bool a) = .returned (.bool b) := by rw [h]
set_option maxHeartbeats 400000 in
theorem ContainsFunc_ok (A : Option Addr) (n c : Nat) (l : List G) (w : World) (hm : GMem w A n l) (hn : n ≤ 9223372036854775807) :
    Calls Try.prog 28 #[.slice A n c, .func (.func 29) #[] #[]] w fun e w' => e = .returned (.bool (!l.all okG)) ∧ Gr w w' := by
  have cc := fun w hm => Lib.hid (IndexFunc_ok A n c l w hm hn)
  have HB := Lib.hid (badAt_is l 0)
  generalize badAt l 0 = r at *
  go_enter Try.func28, Try.ntmps28
  go_wp2_with fail
  refine (cc _ hm).out.mono ?_
  rintro e w1 ⟨rfl, hb1⟩
  go_wp2_with fail
  go_ret
  exact ⟨ret_bool HB.out, hb1⟩
set_option maxHeartbeats 400000 in
theorem Right_ok (A : Option Addr) (n c : Nat) (l : List G) (w : World) (hm : GMem w A n l) (hn : n ≤ 9223372036854775807) :
    Calls Try.prog 12 #[.slice A n c] w fun e w' => e = .returned (.bool (rightB l)) ∧ Gr w w' := by
  by_cases h64 : n ≤ 8
  · have hr : rightB l = l.all okG := by simp [rightB, hm.1, h64]
    have cc := fun w hm => Lib.hid (ContainsFunc_ok A n c l w hm hn)
    have HR := Lib.hid hr
    clear hr
    generalize l.all okG = B at *
    go_enter Try.func12, Try.ntmps12
    go_wp2_with fail
    refine (cc _ hm).out.mono ?_
    rintro e w1 ⟨rfl, hb1⟩
    go_wp2_with fail
    go_ret
    rw [HR.out]
    exact ⟨ret_bool (by simp), hb1⟩
  · have hr : rightB l = false := by simp [rightB, hm.1, h64]
    have HR := Lib.hid hr
    have h65 : decide (n ≤ 8) = false := by simpa using h64
    clear hr
    go_enter Try.func12, Try.ntmps12
    go_wp2_with fail
    go_ret
    rw [HR.out]
    exact ⟨rfl, Gr.refl _⟩
theorem Right_is {A : Option Addr} {n c : Nat} {l : List G} {r : Bool} (hr : rightB l = r) (hn : n ≤ 9223372036854775807) (w : World) (hm : GMem w A n l) :
    Calls Try.prog 12 #[.slice A n c] w fun e w' => e = .returned (.bool r) ∧ Gr w w' := hr ▸ Right_ok A n c l w hm hn

/-- What stands behind the pointer: a copy, and the one that was chosen. -/
def Chosen (w : World) (cp g k : Nat) (l : List G) : Prop :=
  cp ≠ g ∧ Blk w cp #[.slice (some ⟨g, 0, none⟩) l.length l.length, .pointer (some ⟨g, k * 2, none⟩), .int .i64 0] 53 ∧ ∃ vs, Blk w g vs 40 ∧ vs.toList = flat l
/-- All of them behind a change. -/
def chg (p : G → Int × G) (l : List G) (k : Nat) (x : G) : List G := if (p x).1 = 0 then l.set k (p x).2 else l
theorem chg_no {p : G → Int × G} {l : List G} {k : Nat} {x : G} {e : Int} {y : G} (h : p x = (e, y)) (he : e ≠ 0) : chg p l k x = l := by simp [chg, h, he]
theorem chg_yes {p : G → Int × G} {l : List G} {k : Nat} {x y : G} (h : p x = (0, y)) : chg p l k x = l.set k y := by simp [chg, h]
/-- What a change does. -/
def ChgIs (F : Nat) (p : G → Int × G) : Prop :=
  ∀ (w : World) (base cp g k : Nat) (l : List G) (x : G), Chosen w cp g k l → l[k]? = some x → base ≤ g → Calls Try.prog F #[.pointer (some ⟨cp, 0, none⟩)] w fun e w' =>
    e = .returned (.int .i64 (p x).1) ∧ Below base w w' ∧ Chosen w' cp g k (chg p l k x)

section
variable {w : World} {cp g k : Nat} {l : List G} {x : G}
theorem Chosen.facts (h : Chosen w cp g k l) (hx : l[k]? = some x) :
    w.cell? ⟨cp, 1, none⟩ = some (.pointer (some ⟨g, k * 2, none⟩)) ∧ w.cell? ⟨g, k * 2, none⟩ = some (.int .i64 x.1) ∧ w.cell? ⟨g, k * 2 + 1, none⟩ = some (.bool x.2) ∧
    w.frozen? ⟨g, k * 2, none⟩ = false ∧ w.frozen? ⟨g, k * 2 + 1, none⟩ = false ∧ cp < w.heap.size ∧ g < w.heap.size := by
  obtain ⟨hne, hc, vs, hg, hv⟩ := h
  have h0 : vs[k * 2]? = some (.int .i64 x.1) := by have := flat_get0 l k x hx; rw [← hv] at this; simpa using this
  have h1 : vs[k * 2 + 1]? = some (.bool x.2) := by have := flat_get1 l k x hx; rw [← hv] at this; simpa using this
  exact ⟨(hc.at_ rfl).1, (hg.at_ h0).1, (hg.at_ h1).1, (hg.at_ h0).2, (hg.at_ h1).2, hc.lt, hg.lt⟩
theorem Chosen.set1 (h : Chosen w cp g k l) (hx : l[k]? = some x) (v : Int) : Chosen (w.setCell ⟨g, k * 2, none⟩ (.int .i64 v)) cp g k (l.set k (v, x.2)) := by
  obtain ⟨hne, hc, vs, hg, hv⟩ := h
  rw [Chosen, List.length_set]
  exact ⟨hne, hc.st (p := ⟨g, k * 2, none⟩) (Ne.symm hne) _, _, hg.set (k * 2) _, by rw [Array.toList_setIfInBounds, hv, flat_set1 l k x v hx]⟩
theorem Chosen.set2 (h : Chosen w cp g k l) (hx : l[k]? = some x) (v : Bool) : Chosen (w.setCell ⟨g, k * 2 + 1, none⟩ (.bool v)) cp g k (l.set k (x.1, v)) := by
  obtain ⟨hne, hc, vs, hg, hv⟩ := h
  rw [Chosen, List.length_set]
  exact ⟨hne, hc.st (p := ⟨g, k * 2 + 1, none⟩) (Ne.symm hne) _, _, hg.set (k * 2 + 1) _, by rw [Array.toList_setIfInBounds, hv, flat_set2 l k x v hx]⟩
theorem Chosen.drew (h : Chosen w cp g k l) : Chosen w.drew cp g k l := h
end
end P11
end Go.Proofs.Ytgloccbcbgpneaa
