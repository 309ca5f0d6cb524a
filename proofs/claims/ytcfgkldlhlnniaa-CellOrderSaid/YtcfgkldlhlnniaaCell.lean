/-
  Package cell: what its calls answer.
-/
import Derived.Test.YtcfgkldlhlnniaaMem
import Derived.Test.YtcfgkldlhlnniaaWordMath
namespace Go.Proofs.Ytcfgkldlhlnniaa
open Go.ChangeShapes Go.WideShapes Go.ChangeAt Go.RowKit
set_option linter.unusedVariables false

set_option maxHeartbeats 400000 in
theorem unfit_ok (k v : Int) (w : World) (hv : Inb v) : Calls Try.prog 29 #[.agg #[.int .i64 k, .int .i64 v]] w fun e w' => e = .returned (.bool (!fitB k v)) ∧ Gr w w' := by
  go_enter Try.func29, Try.ntmps29
  go_wp2_with fail
  refine (Fits_ok k v _ hv).mono ?_
  rintro e w1 ⟨rfl, hb1⟩
  go_wp2_with fail
  go_ret
  exact ⟨rfl, (((Gr.refl w).al _).trans hb1)⟩

/-- Is a cell's word of its kind? -/
def okB (x : Int × Int) : Bool := fitB x.1 x.2
/-- Where the first cell stands whose word is not of its kind, or -1. -/
def badAt : List (Int × Int) → Nat → Int
  | [], _ => -1
  | x :: r, k => if okB x then badAt r (k + 1) else k

set_option maxHeartbeats 1000000 in
theorem IndexFunc_ok (A : Option Addr) (n c : Nat) (l : List (Int × Int)) (w : World) (hm : Mem w A n l) (hn : n ≤ 9223372036854775807) :
    Calls Try.prog 34 #[.slice A n c, .func (.func 29) #[] #[]] w fun e w' => e = .returned (.int .i64 (badAt l 0)) ∧ Gr w w' := by
  go_enter Try.func34, Try.ntmps34
  go_wp2_with fail
  go_loopw [8] (fun i wr => ∃ k : Nat, k ≤ n ∧ i = .int .i64 k ∧ Hid (badAt (l.drop k) k = badAt l 0) ∧ Gr w wr) (fun i _ => n - (intOf i).toNat)
  case atStart => exact ⟨0, Nat.zero_le _, rfl, Lib.hid rfl, Gr.refl _⟩
  case round =>
    obtain ⟨k, hk, rfl, HB, hg⟩ := hrel
    by_cases hlt : k < n
    · obtain ⟨b, off, x, rfl, hbl, hx, h1, h2, c0, c1⟩ := (hm.gr hg).at_ hlt
      have hd : l.drop k = x :: l.drop (k + 1) := by
        obtain ⟨hl, rfl⟩ := List.getElem?_eq_some_iff.1 hx
        exact List.drop_eq_getElem_cons hl
      cases hf : okB x
      · have hr : badAt l 0 = (k : Int) := by rw [← HB.out, hd]; simp [badAt, hf]
        have cc := fun w => Lib.hid (show Calls Try.prog 29 #[.agg #[.int .i64 x.1, .int .i64 x.2]] w fun e w' => e = .returned (.bool true) ∧ Gr w w' from by have := unfit_ok x.1 x.2 w h2; rwa [show fitB x.1 x.2 = false from hf] at this)
        have HR := Lib.hid hr
        clear hr hd hf hx HB hm
        go_wp2_with fail
        refine (cc _).out.mono ?_
        rintro e w1 ⟨rfl, hb1⟩
        go_wp2_with fail
        go_ret
        rw [HR.out]
        exact ⟨rfl, hg.trans hb1⟩
      · have hr : Hid (badAt (l.drop (k + 1)) (k + 1) = badAt l 0) := Lib.hid (by rw [← HB.out, hd]; simp [badAt, hf])
        have cc := fun w => Lib.hid (show Calls Try.prog 29 #[.agg #[.int .i64 x.1, .int .i64 x.2]] w fun e w' => e = .returned (.bool false) ∧ Gr w w' from by have := unfit_ok x.1 x.2 w h2; rwa [show fitB x.1 x.2 = true from hf] at this)
        clear hd hf hx HB hm
        go_wp2_with fail
        refine (cc _).out.mono ?_
        rintro e w1 ⟨rfl, hb1⟩
        go_wp2_with fail
        go_roundw
        case rel => exact ⟨k + 1, by omega, by go_num, hr, hg.trans hb1⟩
        case measure => simp [intOf]; omega
    · obtain rfl : k = n := by omega
      have hr : badAt l 0 = -1 := by rw [← HB.out, List.drop_of_length_le (by have := hm.1; omega)]; rfl
      have HR := Lib.hid hr
      clear hr HB hm
      go_wp2_with fail
      go_ret
      rw [HR.out]
      exact ⟨rfl, hg⟩

theorem badAt_is (l : List (Int × Int)) : ∀ k : Nat, decide (0 ≤ badAt l k) = !l.all okB := by
  induction l with
  | nil => intro k; rfl
  | cons x r ih =>
    intro k
    unfold badAt
    cases hx : okB x
    · simp [hx]
    · simp [hx, ih]
theorem ret_bool {a b : Bool} (h : a = b) : Ending.returned (.bool a) = .returned (.bool b) := by rw [h]
set_option maxHeartbeats 400000 in
theorem ContainsFunc_ok (A : Option Addr) (n c : Nat) (l : List (Int × Int)) (w : World) (hm : Mem w A n l) (hn : n ≤ 9223372036854775807) :
    Calls Try.prog 28 #[.slice A n c, .func (.func 29) #[] #[]] w fun e w' => e = .returned (.bool (!l.all okB)) ∧ Gr w w' := by
  have cc := fun w hm => Lib.hid (IndexFunc_ok A n c l w hm hn)
  have HB := Lib.hid (badAt_is l 0)
  generalize badAt l 0 = r at *
  go_enter Try.func28, Try.ntmps28
  go_wp2_with fail
  refine (cc _ hm).out.mono ?_
  rintro e w1 ⟨rfl, hb1⟩
  go_wp2_with fail
  go_ret
  exact ⟨ret_bool HB.out, hb1⟩
/-- May a memory be? -/
def rightB (l : List (Int × Int)) : Bool := decide (l.length ≤ 64) && l.all okB
set_option maxHeartbeats 400000 in
theorem Right_ok (A : Option Addr) (n c : Nat) (l : List (Int × Int)) (w : World) (hm : Mem w A n l) (hn : n ≤ 9223372036854775807) :
    Calls Try.prog 12 #[.slice A n c] w fun e w' => e = .returned (.bool (rightB l)) ∧ Gr w w' := by
  by_cases h64 : n ≤ 64
  · have hr : rightB l = l.all okB := by simp [rightB, hm.1, h64]
    have cc := fun w hm => Lib.hid (ContainsFunc_ok A n c l w hm hn)
    have HR := Lib.hid hr
    clear hr
    generalize l.all okB = B at *
    go_enter Try.func12, Try.ntmps12
    go_wp2_with fail
    refine (cc _ hm).out.mono ?_
    rintro e w1 ⟨rfl, hb1⟩
    go_wp2_with fail
    go_ret
    rw [HR.out]
    exact ⟨ret_bool (by simp), hb1⟩
  · have hr : rightB l = false := by simp [rightB, hm.1, h64]
    have HR := Lib.hid hr
    have h65 : decide (n ≤ 64) = false := by simpa using h64
    clear hr
    go_enter Try.func12, Try.ntmps12
    go_wp2_with fail
    go_ret
    rw [HR.out]
    exact ⟨rfl, Gr.refl _⟩
theorem Right_is {A : Option Addr} {n c : Nat} {l : List (Int × Int)} {r : Bool} (hr : rightB l = r) (hn : n ≤ 9223372036854775807) (w : World) (hm : Mem w A n l) :
    Calls Try.prog 12 #[.slice A n c] w fun e w' => e = .returned (.bool r) ∧ Gr w w' := hr ▸ Right_ok A n c l w hm hn
set_option maxHeartbeats 400000 in
theorem find_arg (A : Option Addr) (n c : Nat) (l : List (Int × Int)) (at_ : Int) (w : World) (hm : Mem w A n l) (hn : n ≤ 9223372036854775807) (hr : rightB l = false) :
    Calls Try.prog 20 #[.slice A n c, .int .i64 at_] w fun e w' => e = .returned (.tuple #[.agg #[.int .i64 0, .int .i64 0], .int .i64 1]) ∧ Gr w w' := by
  have cc := fun w hm => Lib.hid (Right_is (A := A) (c := c) hr hn w hm)
  clear hr
  have hm1 := fun o => hm.gr ((Gr.refl w).al o)
  clear hm
  go_enter Try.func20, Try.ntmps20
  go_wp2_with fail
  refine (cc _ (hm1 _)).out.mono ?_
  rintro e w1 ⟨rfl, hb1⟩
  obtain ⟨hc, hf⟩ := bcell hb1
  have hz : w.heap.size < w1.heap.size := by have := hb1.size; simp at this; omega
  go_wp2_with fail
  exact bodyPost_ret (v := .tuple #[.agg #[.int .i64 0, .int .i64 0], .int .i64 1]) (by simp [results, Try.results20, go_sem, hc]) rfl ⟨rfl, ((((Gr.refl w).al _).trans hb1).st (Nat.le_refl _) _).st (Nat.le_refl _) _⟩
set_option maxHeartbeats 400000 in
theorem find_range (A : Option Addr) (n c : Nat) (l : List (Int × Int)) (at_ : Int) (w : World) (hm : Mem w A n l) (hn : n ≤ 9223372036854775807) (hr : rightB l = true) (ha : at_ < 0 ∨ n ≤ at_) :
    Calls Try.prog 20 #[.slice A n c, .int .i64 at_] w fun e w' => e = .returned (.tuple #[.agg #[.int .i64 0, .int .i64 0], .int .i64 3]) ∧ Gr w w' := by
  have cc := fun w hm => Lib.hid (Right_is (A := A) (c := c) hr hn w hm)
  clear hr
  have hm1 := fun o => hm.gr ((Gr.refl w).al o)
  clear hm
  rcases ha with ha | ha
  · go_enter Try.func20, Try.ntmps20
    go_wp2_with fail
    refine (cc _ (hm1 _)).out.mono ?_
    rintro e w1 ⟨rfl, hb1⟩
    obtain ⟨hc, hf⟩ := bcell hb1
    have hz : w.heap.size < w1.heap.size := by have := hb1.size; simp at this; omega
    go_wp2_with fail
    exact bodyPost_ret (v := .tuple #[.agg #[.int .i64 0, .int .i64 0], .int .i64 3]) (by simp [results, Try.results20, go_sem, hc]) rfl ⟨rfl, ((((Gr.refl w).al _).trans hb1).st (Nat.le_refl _) _).st (Nat.le_refl _) _⟩
  · have ha0 : decide (at_ < 0) = false := by simp; omega
    go_enter Try.func20, Try.ntmps20
    go_wp2_with fail
    refine (cc _ (hm1 _)).out.mono ?_
    rintro e w1 ⟨rfl, hb1⟩
    obtain ⟨hc, hf⟩ := bcell hb1
    have hz : w.heap.size < w1.heap.size := by have := hb1.size; simp at this; omega
    go_wp2_with fail
    exact bodyPost_ret (v := .tuple #[.agg #[.int .i64 0, .int .i64 0], .int .i64 3]) (by simp [results, Try.results20, go_sem, hc]) rfl ⟨rfl, ((((Gr.refl w).al _).trans hb1).st (Nat.le_refl _) _).st (Nat.le_refl _) _⟩
set_option maxHeartbeats 400000 in
theorem find_ok (A : Option Addr) (n c : Nat) (l : List (Int × Int)) (i : Nat) (x : Int × Int) (w : World) (hm : Mem w A n l) (hn : n ≤ 9223372036854775807) (hr : rightB l = true) (hx : l[i]? = some x) :
    Calls Try.prog 20 #[.slice A n c, .int .i64 i] w fun e w' => e = .returned (.tuple #[.agg #[.int .i64 x.1, .int .i64 x.2], .int .i64 0]) ∧ Gr w w' := by
  have cc := fun w hm => Lib.hid (Right_is (A := A) (c := c) hr hn w hm)
  have hi : i < n := by have := (List.getElem?_eq_some_iff.1 hx).1; have := hm.1; omega
  have hm1 := fun o => hm.gr ((Gr.refl w).al o)
  obtain ⟨b, off, y, rfl, hbl, hy, h1, h2, c0, c1⟩ := hm.at_ hi
  obtain rfl : x = y := by rw [hx] at hy; exact Option.some.inj hy
  clear hr hm hx hy
  have hi0 : ¬ (i : Int) < 0 := by omega
  have hi1 : ¬ (n : Int) ≤ (i : Int) := by omega
  obtain ⟨x1, x2⟩ := x
  go_enter Try.func20, Try.ntmps20
  go_wp2_with fail
  refine (cc _ (hm1 _)).out.mono ?_
  rintro e w1 ⟨rfl, hb1⟩
  obtain ⟨hc, hf⟩ := bcell hb1
  have hz : w.heap.size < w1.heap.size := by have := hb1.size; simp at this; omega
  have hne : b ≠ w.heap.size := by omega
  have hbs : b < w.heap.size + 1 := by omega
  go_wp2_with fail
  exact bodyPost_ret (v := .tuple #[.agg #[.int .i64 x1, .int .i64 x2], .int .i64 0]) (by simp [results, Try.results20, go_sem, hc]) rfl ⟨rfl, ((((Gr.refl w).al _).trans hb1).st (Nat.le_refl _) _).st (Nat.le_refl _) _⟩
end Go.Proofs.Ytcfgkldlhlnniaa
