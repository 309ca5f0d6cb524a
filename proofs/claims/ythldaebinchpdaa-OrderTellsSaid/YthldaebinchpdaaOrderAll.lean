/-
  Package order: the foremost, and All; sums of floats.
-/
import Derived.Test.YthldaebinchpdaaOrderRef
import Derived.Test.YthldaebinchpdaaRow
import Derived.Deep.Slices
namespace Go.Proofs.Ythldaebinchpdaa
open Go.ChangeShapes Go.WideShapes Go.ChangeAt Go.RowKit
set_option linter.unusedVariables false

abbrev FMem := EMem (Value.float .f64) F64

/-- The foremost of the first k + 1, by an order. -/
def fmk (lt : Nat → Nat → Bool) (l : List Nat) : Nat → Nat
  | 0 => l.getD 0 0
  | k + 1 => if lt (l.getD (k + 1) 0) (fmk lt l k) then l.getD (k + 1) 0 else fmk lt l k
theorem fmk_F64 (lt : Nat → Nat → Bool) {l : List Nat} (h : ∀ x ∈ l, F64 x) : ∀ k, k < l.length → F64 (fmk lt l k) := by
  have hg : ∀ k, k < l.length → F64 (l.getD k 0) := fun k hk => by
    rw [List.getD_eq_getElem?_getD, List.getElem?_eq_getElem hk]
    exact h _ (List.getElem_mem hk)
  intro k
  induction k with
  | zero => exact hg 0
  | succ k ih =>
    intro hk
    show F64 (if _ then _ else _)
    split
    · exact hg _ hk
    · exact ih (by omega)

theorem getD_of {l : List Nat} {k x : Nat} (h : l[k]? = some x) : l.getD k 0 = x := by rw [List.getD_eq_getElem?_getD, h]; rfl

section
variable {w : World} {A : Option Addr} {n c : Nat} {l : List Nat}

set_option maxHeartbeats 1000000 in
theorem foremost_ahead (hm : FMem w A n l) (h0 : 0 < n) (hc : n ≤ c) (hn : n ≤ 9223372036854775807) :
    Calls Try.prog 22 #[.slice A n c, .func (.func 12) #[] #[]] w fun e w' => e = .returned (.float .f64 (fmk ahd l (n - 1))) ∧ w' = w := by
  obtain ⟨b, off, x, rfl, hbl, hx, hi, c0⟩ := hm.at_ h0
  rw [Nat.add_zero] at c0
  have E1 := Lib.hid (show fmk ahd l 0 = x from getD_of hx)
  have HF := Lib.hid (fmk_F64 ahd hm.all)
  have HL := Lib.hid hm.len
  clear hx
  by_cases hc1 : c = 1
  · obtain rfl : n = 1 := by omega
    subst hc1
    go_enter Try.func22, Try.ntmps22
    go_wp2_with fail
    go_loop [5, 14] (fun m i => i = .int .i64 0 ∧ m = .float .f64 x) (fun _ i => 0)
    case atStart => exact ⟨rfl, rfl⟩
    case round =>
      obtain ⟨rfl, rfl⟩ := hrel
      go_wp2_with fail
      go_ret
      exact ⟨congrArg (fun y => Ending.returned (Value.float .f64 y)) E1.out.symm, rfl⟩
  · have hcn : ¬ c < 1 := by omega
    go_enter Try.func22, Try.ntmps22
    go_wp2_with fail
    go_loop [5, 14] (fun m i => ∃ k : Nat, k ≤ n - 1 ∧ i = .int .i64 (k : Int) ∧ m = .float .f64 (fmk ahd l k)) (fun _ i => n - (intOf i).toNat)
    case atStart => exact ⟨0, by omega, rfl, by rw [E1.out]⟩
    case round =>
      obtain ⟨k, hk, rfl, rfl⟩ := hrel
      by_cases hlt : k < n - 1
      · obtain ⟨b', off', y, hb', hbl', hy, hiy, cy⟩ := hm.at_ (show k + 1 < n by omega)
        obtain ⟨rfl, rfl⟩ : b = b' ∧ off = off' := by simpa using hb'
        have c1 : w.cell? ⟨b, off + 1 + k, none⟩ = some (.float .f64 y) := by rw [← cy]; congr 2; omega
        have e2 : fmk ahd l (k + 1) = if ahd y (fmk ahd l k) then y else fmk ahd l k := by rw [← getD_of hy]; rfl
        have hf := HF.out k (by have := HL.out; omega)
        generalize fmk ahd l k = m at *
        generalize hM : fmk ahd l (k + 1) = M at *
        have HM := Lib.hid hM
        have cc := fun w => Lib.hid (Ahead_ok y m hiy hf w)
        have hB : ahd y m = true ∨ ahd y m = false := by cases ahd y m <;> simp
        have e3 : M = if ahd y m then y else m := e2
        clear hM e2 hm hy E1 HF cy hb'
        generalize ahd y m = B at *
        rcases hB with rfl | rfl
        all_goals (
          have E3 := Lib.hid e3
          clear e3
          go_wp2_with fail
          refine (cc _).out.mono ?_
          rintro e w1 ⟨rfl, rfl⟩
          go_wp2_with fail
          go_round
          case rel => exact ⟨k + 1, by omega, by go_num, by rw [HM.out, E3.out]; rfl⟩
          case measure => simp [intOf]; omega)
      · obtain rfl : k = n - 1 := by omega
        clear hm E1
        go_wp2_with fail
        go_ret
        exact ⟨rfl, rfl⟩
set_option maxHeartbeats 1000000 in
theorem foremost_behind (hm : FMem w A n l) (h0 : 0 < n) (hc : n ≤ c) (hn : n ≤ 9223372036854775807) :
    Calls Try.prog 22 #[.slice A n c, .func (.func 23) #[] #[]] w fun e w' => e = .returned (.float .f64 (fmk (fun x y => ahd y x) l (n - 1))) ∧ w' = w := by
  obtain ⟨b, off, x, rfl, hbl, hx, hi, c0⟩ := hm.at_ h0
  rw [Nat.add_zero] at c0
  have E1 := Lib.hid (show fmk (fun x y => ahd y x) l 0 = x from getD_of hx)
  have HF := Lib.hid (fmk_F64 (fun x y => ahd y x) hm.all)
  have HL := Lib.hid hm.len
  clear hx
  by_cases hc1 : c = 1
  · obtain rfl : n = 1 := by omega
    subst hc1
    go_enter Try.func22, Try.ntmps22
    go_wp2_with fail
    go_loop [5, 14] (fun m i => i = .int .i64 0 ∧ m = .float .f64 x) (fun _ i => 0)
    case atStart => exact ⟨rfl, rfl⟩
    case round =>
      obtain ⟨rfl, rfl⟩ := hrel
      go_wp2_with fail
      go_ret
      exact ⟨congrArg (fun y => Ending.returned (Value.float .f64 y)) E1.out.symm, rfl⟩
  · have hcn : ¬ c < 1 := by omega
    go_enter Try.func22, Try.ntmps22
    go_wp2_with fail
    go_loop [5, 14] (fun m i => ∃ k : Nat, k ≤ n - 1 ∧ i = .int .i64 (k : Int) ∧ m = .float .f64 (fmk (fun x y => ahd y x) l k)) (fun _ i => n - (intOf i).toNat)
    case atStart => exact ⟨0, by omega, rfl, by rw [E1.out]⟩
    case round =>
      obtain ⟨k, hk, rfl, rfl⟩ := hrel
      by_cases hlt : k < n - 1
      · obtain ⟨b', off', y, hb', hbl', hy, hiy, cy⟩ := hm.at_ (show k + 1 < n by omega)
        obtain ⟨rfl, rfl⟩ : b = b' ∧ off = off' := by simpa using hb'
        have c1 : w.cell? ⟨b, off + 1 + k, none⟩ = some (.float .f64 y) := by rw [← cy]; congr 2; omega
        have e2 : fmk (fun x y => ahd y x) l (k + 1) = if (fun x y => ahd y x) y (fmk (fun x y => ahd y x) l k) then y else fmk (fun x y => ahd y x) l k := by rw [← getD_of hy]; rfl
        have hf := HF.out k (by have := HL.out; omega)
        generalize fmk (fun x y => ahd y x) l k = m at *
        generalize hM : fmk (fun x y => ahd y x) l (k + 1) = M at *
        have HM := Lib.hid hM
        have cc := fun w => Lib.hid (behind_ok y m hiy hf w)
        have hB : ahd m y = true ∨ ahd m y = false := by cases ahd m y <;> simp
        have e3 : M = if ahd m y then y else m := e2
        clear hM e2 hm hy E1 HF cy hb'
        generalize ahd m y = B at *
        rcases hB with rfl | rfl
        all_goals (
          have E3 := Lib.hid e3
          clear e3
          go_wp2_with fail
          refine (cc _).out.mono ?_
          rintro e w1 ⟨rfl, rfl⟩
          go_wp2_with fail
          go_round
          case rel => exact ⟨k + 1, by omega, by go_num, by rw [HM.out, E3.out]; rfl⟩
          case measure => simp [intOf]; omega)
      · obtain rfl : k = n - 1 := by omega
        clear hm E1
        go_wp2_with fail
        go_ret
        exact ⟨rfl, rfl⟩
end

/-- One for all that are no numbers. -/
def qnan : Nat := 9221120237041090561
/-- A float, what is no number as one. -/
def cn (x : Nat) : Nat := if isN x then qnan else x
theorem qnan_N : isN qnan = true := by decide +kernel
theorem cn_N {x : Nat} (h : isN x = true) : cn x = qnan := by unfold cn; rw [if_pos h]
theorem cn_f {x : Nat} (h : isN x = false) : cn x = x := by unfold cn; rw [if_neg (by rw [h]; decide)]
theorem cn_cn (x : Nat) : cn (cn x) = cn x := by
  cases h : isN x
  · rw [cn_f h, cn_f h]
  · rw [cn_N h, cn_N qnan_N]
theorem cn_key {x y : Nat} (hx : F64 x) (hy : F64 y) : cn x = cn y ↔ key x = key y := by
  cases h1 : isN x
  · rw [cn_f h1]
    have hk := key_num h1
    cases h2 : isN y
    · rw [cn_f h2]
      exact ⟨fun h => by rw [h], fun h => key_inj hx hy hk.2.1 h⟩
    · rw [cn_N h2, key_nan h2]
      refine ⟨fun h => ?_, fun h => by omega⟩
      rw [h, qnan_N] at h1
      cases h1
  · rw [cn_N h1, key_nan h1]
    cases h2 : isN y
    · rw [cn_f h2]
      have hk := key_num h2
      refine ⟨fun h => ?_, fun h => by omega⟩
      rw [← h, qnan_N] at h2
      cases h2
    · rw [cn_N h2, key_nan h2]
      exact ⟨fun _ => rfl, fun _ => rfl⟩

/-- What is added. -/
def cadd (x y : Nat) : Nat := match floatBits .add .f64 (cn x) (cn y) with | some r => r | none => qnan
theorem cadd_cn (x y : Nat) : cadd (cn x) y = cadd x y := by unfold cadd; rw [cn_cn]
theorem cadd_cn2 (x y : Nat) : cadd x (cn y) = cadd x y := by unfold cadd; rw [cn_cn]
theorem word_notN (s : Bool) {r : Nat} (h : r ≤ 9218868437227405312) : isN (Ieee.double.word s r) = false := by
  obtain ⟨_, w2, _⟩ := word_sg (s := s) (r := r) (by omega)
  unfold isN
  rw [w2]
  exact decide_eq_false (by omega)
theorem nearest_notN (s : Bool) (m : Nat) (p : Int) : isN (Ieee.double.nearest s m p) = false := by
  unfold Ieee.Format.nearest
  split
  · exact word_notN s (by omega)
  · simp only [db_inf]
    exact word_notN s (Nat.min_le_right _ _)
theorem sum_notN {x y r : Nat} (h : floatBits .add .f64 x y = some r) : isN r = false := by
  have h' : ((Ieee.double.read x).sum (Ieee.double.read y)).map Ieee.double.write = some r := h
  generalize Ieee.double.read x = a at h'
  generalize Ieee.double.read y = b at h'
  rw [Option.map_eq_some_iff] at h'
  obtain ⟨d, hd, rfl⟩ := h'
  unfold Ieee.Datum.sum at hd
  have hi : ∀ s, isN (Ieee.double.write (.infinity s)) = false := fun s => by
    unfold Ieee.Format.write
    simp only [db_inf]
    exact word_notN s (by omega)
  have hn : ∀ s m p, isN (Ieee.double.write (.number s m p)) = false := fun s m p => nearest_notN s m p
  split at hd
  · cases hd
  · cases hd
  · split at hd
    · cases hd; exact hi _
    · cases hd
  · cases hd; exact hi _
  · cases hd; exact hi _
  · cases hd; exact hn _ _ _
theorem add_nan {x y : Nat} (hx : F64 x) (hy : F64 y) (h : isN x = true ∨ isN y = true) : floatBits .add .f64 x y = none := by
  show ((Ieee.double.read x).sum (Ieee.double.read y)).map Ieee.double.write = none
  rw [read_eq hx, read_eq hy]
  rcases h with h | h
  · unfold isN at h
    have := of_decide_eq_true h
    rw [if_neg (by omega), if_neg (by omega)]
    rfl
  · unfold isN at h
    have := of_decide_eq_true h
    rw [if_neg (show ¬ rg y < 9218868437227405312 by omega), if_neg (show ¬ rg y = 9218868437227405312 by omega)]
    split
    · rfl
    · split <;> rfl
/-- THE SUM OF TWO, in whatever world. -/
theorem add_ex {x y : Nat} (hx : F64 x) (hy : F64 y) (t : TypeId) (w : World) : ∃ r k, (binOp .add t (.float .f64 x) (.float .f64 y)).run Try.prog w = .ok (.float .f64 r) (w.drewN k) ∧ F64 r ∧ cn r = cadd x y := by
  cases h : floatBits .add .f64 x y with
  | some r =>
    have hN : isN x = false ∧ isN y = false := by
      constructor
      · cases h1 : isN x
        · rfl
        · rw [add_nan hx hy (.inl h1)] at h; cases h
      · cases h1 : isN y
        · rfl
        · rw [add_nan hx hy (.inr h1)] at h; cases h
    refine ⟨r, 0, run_float_arith (P := Try.prog) w .add t .f64 x y r h, by have := floatBits_wf h; simpa [Lit.wf, F64] using this, ?_⟩
    unfold cadd
    rw [cn_f hN.1, cn_f hN.2, h, cn_f (sum_notN h)]
  | none =>
    refine ⟨nanr w x y, 1, run_float_none w .add (.inl rfl) t x y h, (nanr_is w x y).1, ?_⟩
    rw [cn_N (isN_iff.2 (by rw [(nanr_is w x y).2]; decide))]
    unfold cadd
    cases h1 : isN x
    · cases h2 : isN y
      · rw [cn_f h1, cn_f h2, h]
      · have := add_nan (x := cn x) (y := cn y) (by rw [cn_f h1]; exact hx) (by rw [cn_N h2]; exact F64_const (by decide)) (.inr (by rw [cn_N h2]; exact qnan_N))
        rw [this]
    · have := add_nan (x := cn x) (y := cn y) (by rw [cn_N h1]; exact F64_const (by decide)) (by unfold cn; split; exact F64_const (by decide); exact hy) (.inl (by rw [cn_N h1]; exact qnan_N))
      rw [this]
/-- The sum of the first k + 1. -/
def csum (l : List Nat) : Nat → Nat
  | 0 => cn (l.getD 0 0)
  | k + 1 => cadd (csum l k) (l.getD (k + 1) 0)
end Go.Proofs.Ythldaebinchpdaa
