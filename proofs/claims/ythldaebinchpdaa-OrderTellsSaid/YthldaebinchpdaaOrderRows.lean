/-
  deadboltref05.Rows; rows in order of the same floats are alike.
-/
import Derived.Test.YthldaebinchpdaaOrderSort
namespace Go.Proofs.Ythldaebinchpdaa
open Go.ChangeShapes Go.WideShapes Go.ChangeAt Go.RowKit
set_option linter.unusedVariables false

theorem K_map {l : List Nat} {i : Nat} (h : i < l.length) : (l.map key)[i]? = some (K l i) := by rw [List.getElem?_map, G_some h]; rfl
theorem Sd.pair {l : List Nat} {n : Nat} (h : Sd l 0 n) (hl : l.length = n) : (l.map key).Pairwise (fun x y => x ≤ y) := by
  rw [List.pairwise_iff_getElem]
  intro i j hi hj hij
  rw [List.length_map] at hi hj
  have h1 := K_map hi
  have h2 := K_map hj
  rw [List.getElem?_eq_getElem (by rw [List.length_map]; exact hi)] at h1
  rw [List.getElem?_eq_getElem (by rw [List.length_map]; exact hj)] at h2
  rw [Option.some.inj h1, Option.some.inj h2]
  exact h i j (by omega) (by omega) (by omega)
/-- Two rows in order, of the same floats, are alike at each place. -/
theorem alike_rows {l a b : List Nat} {n : Nat} (pa : a.Perm l) (pb : b.Perm l) (sa : Sd a 0 n) (sb : Sd b 0 n) (ha : a.length = n) (hb : b.length = n) : ∀ i, i < n → K a i = K b i := by
  have hp : (a.map key).Perm (b.map key) := (pa.trans pb.symm).map key
  have he : a.map key = b.map key := List.Perm.eq_of_pairwise (le := fun x y => x ≤ y) (fun x y _ _ h1 h2 => Int.le_antisymm h1 h2) (sa.pair ha) (sb.pair hb) hp
  intro i hi
  have h1 := K_map (l := a) (i := i) (by omega)
  have h2 := K_map (l := b) (i := i) (by omega)
  rw [he, h2] at h1
  exact (Option.some.inj h1).symm
theorem mem_G {w : World} {A : Option Addr} {n : Nat} {l : List Nat} (h : FMem w A n l) {i : Nat} (hi : i < n) : F64 (G l i) := by
  rw [G_lt (by rw [h.len]; exact hi)]
  exact h.all _ (List.getElem_mem _)
theorem mem_at {w : World} {A : Option Addr} {n : Nat} {l : List Nat} (h : FMem w A n l) {i : Nat} (hi : i < n) : ∃ b off, A = some ⟨b, off, none⟩ ∧ b < w.heap.size ∧ F64 (G l i) ∧ w.cell? ⟨b, off + i, none⟩ = some (.float .f64 (G l i)) := by
  obtain ⟨b, off, x, hA, hb, hx, hF, hc⟩ := h.at_ hi
  have e : G l i = x := getD_of hx
  rw [e]
  exact ⟨b, off, hA, hb, hF, hc⟩

theorem mink_le (l : List Nat) : ∀ k i, i ≤ k → mink l k ≤ K l i ∧ K l i ≤ maxk l k
  | 0, i, h => by obtain rfl : i = 0 := by omega
                  exact ⟨Int.le_refl _, Int.le_refl _⟩
  | k + 1, i, h => by
    by_cases e : i = k + 1
    · subst e
      exact ⟨Int.min_le_right _ _, Int.le_max_right _ _⟩
    · obtain ⟨h1, h2⟩ := mink_le l k i (by omega)
      exact ⟨Int.le_trans (Int.min_le_left _ _) h1, Int.le_trans h2 (Int.le_max_left _ _)⟩
theorem mink_mem (l : List Nat) : ∀ k, (∃ i, i ≤ k ∧ mink l k = K l i) ∧ ∃ i, i ≤ k ∧ maxk l k = K l i
  | 0 => ⟨⟨0, Nat.le_refl _, rfl⟩, ⟨0, Nat.le_refl _, rfl⟩⟩
  | k + 1 => by
    obtain ⟨⟨i, h1, h2⟩, ⟨j, h3, h4⟩⟩ := mink_mem l k
    constructor
    · by_cases h : mink l k ≤ K l (k + 1)
      · exact ⟨i, by omega, (Int.min_eq_left h).trans h2⟩
      · exact ⟨k + 1, Nat.le_refl _, Int.min_eq_right (Int.le_of_lt (Int.not_le.1 h))⟩
    · by_cases h : K l (k + 1) ≤ maxk l k
      · exact ⟨j, by omega, (Int.max_eq_left h).trans h4⟩
      · exact ⟨k + 1, Nat.le_refl _, Int.max_eq_right (Int.le_of_lt (Int.not_le.1 h))⟩
theorem perm_at {l s : List Nat} (p : s.Perm l) {i : Nat} (hi : i < s.length) : ∃ j, j < l.length ∧ K s i = K l j := by
  have hm : G s i ∈ l := p.mem_iff.1 (by rw [G_lt hi]; exact List.getElem_mem hi)
  obtain ⟨j, hj⟩ := List.getElem?_of_mem hm
  have hl := (List.getElem?_eq_some_iff.1 hj).1
  refine ⟨j, hl, ?_⟩
  unfold K
  rw [show G l j = G s i from getD_of hj]
/-- The least and the greatest are the ends of what is sorted. -/
theorem ends_is {l s : List Nat} {n : Nat} (p : s.Perm l) (ss : Sd s 0 n) (hs : s.length = n) (h0 : 0 < n) : mink l (n - 1) = K s 0 ∧ maxk l (n - 1) = K s (n - 1) := by
  have hl : l.length = n := by rw [← hs]; exact p.length_eq.symm
  obtain ⟨⟨i, i1, i2⟩, ⟨j, j1, j2⟩⟩ := mink_mem l (n - 1)
  obtain ⟨a, a1, a2⟩ := perm_at p (i := 0) (by omega)
  obtain ⟨b, b1, b2⟩ := perm_at p (i := n - 1) (by omega)
  obtain ⟨c, c1, c2⟩ := perm_at p.symm (i := i) (by omega)
  obtain ⟨d, d1, d2⟩ := perm_at p.symm (i := j) (by omega)
  have x1 := (mink_le l (n - 1) a (by omega)).1
  have x2 := (mink_le l (n - 1) b (by omega)).2
  have x3 := ss 0 c (Nat.le_refl _) (Nat.zero_le _) (by omega)
  have x4 := ss d (n - 1) (Nat.zero_le _) (by omega) (by omega)
  omega
/-- How many of the first k have this place. -/
def cntK (f : Int) (l : List Nat) : Nat → Int
  | 0 => 0
  | k + 1 => cntK f l k + if f = K l k then 1 else 0
theorem cntK_b (f : Int) (l : List Nat) : ∀ k, 0 ≤ cntK f l k ∧ cntK f l k ≤ k
  | 0 => ⟨Int.le_refl _, Int.le_refl _⟩
  | k + 1 => by
    have := cntK_b f l k
    show 0 ≤ cntK f l k + (if f = K l k then 1 else 0) ∧ cntK f l k + (if f = K l k then 1 else 0) ≤ _
    split <;> omega
theorem cntK_is (f : Int) (l : List Nat) : ∀ k, k ≤ l.length → cntK f l k = ((l.take k).countP (fun x => decide (f = key x)) : Nat)
  | 0, _ => by rw [List.take_zero]; rfl
  | k + 1, h => by
    rw [List.take_succ_eq_append_getElem (by omega), List.countP_append, ← G_lt (by omega)]
    show cntK f l k + (if f = K l k then 1 else 0) = _
    rw [cntK_is f l k (by omega)]
    unfold K
    by_cases e : f = key (G l k)
    · rw [if_pos e, List.countP_singleton, if_pos (by simpa using e)]; omega
    · rw [if_neg e, List.countP_singleton, if_neg (by simpa using e)]; omega
theorem cntK_perm (f : Int) {l s : List Nat} {n : Nat} (p : s.Perm l) (hs : s.length = n) : cntK f s n = cntK f l n := by
  have hl : l.length = n := by rw [← hs]; exact p.length_eq.symm
  rw [cntK_is f s n (by omega), cntK_is f l n (by omega), List.take_of_length_le (by omega), List.take_of_length_le (by omega), p.countP_eq]

set_option maxHeartbeats 2000000 in
theorem rRows_ok {A B : Option Addr} {n c d : Nat} {l r : List Nat} {w : World} (hm : FMem w A n l) (hr : FMem w B n r) (hn : n ≤ 60) (he : ∀ i, i < n → K l i = K r i) :
    Calls Try.prog 14 #[.slice A n c, .slice B n d] w fun e w' => e = .returned (.bool true) ∧ ∃ k, w' = w.drewN k := by
  have HE := Lib.hid he
  have HM := Lib.hid hm
  have HR := Lib.hid hr
  clear he hm hr
  have t1 : ((n : Int) != (n : Int)) = false := by simp
  go_enter Try.func14, Try.ntmps14
  go_wp2_with fail
  go_loopw [13] (fun iv wr => ∃ (i : Nat), iv = .int .i64 i ∧ i ≤ n ∧ Hid (∃ q, wr = w.drewN q)) (fun iv _ => n - (intOf iv).toNat)
  case atStart => exact ⟨0, rfl, Nat.zero_le _, Lib.hid ⟨0, rfl⟩⟩
  case round =>
    obtain ⟨i, rfl, hi, HQ⟩ := hrel
    have hG : Gr w wr := by obtain ⟨q, rfl⟩ := HQ.out; exact (Gr.refl w).drN q
    by_cases hlt : i < n
    · obtain ⟨b1, o1, rfl, hb1, f1, c1⟩ := mem_at (HM.out.gr hG) hlt
      obtain ⟨b2, o2, rfl, hb2, f2, c2⟩ := mem_at (HR.out.gr hG) hlt
      have cc := fun w => Lib.hid (rAlike_t f1 f2 (HE.out i hlt) w)
      have i0 : (0 : Int) ≤ (i : Int) := by omega
      have i1 : (i : Int) < (n : Int) := by omega
      generalize G l i = x at *
      generalize G r i = y at *
      go_wp2_with fail
      go_quiet ((go_at_call 17; exact Calls.quiet_of_same (cc _).out))
      go_wp2_with fail
      go_roundw
      case rel => exact ⟨i + 1, by go_num, by omega, Lib.hid (by obtain ⟨q, rfl⟩ := HQ.out; exact ⟨_, World.drewN_drewN _ _ _⟩)⟩
      case measure => simp [intOf]; omega
    · obtain rfl : i = n := by omega
      go_wp2_with fail
      go_ret
      exact ⟨rfl, HQ.out⟩
end Go.Proofs.Ythldaebinchpdaa
