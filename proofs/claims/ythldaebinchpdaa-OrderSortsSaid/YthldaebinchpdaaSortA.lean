/-
  slices.swapRangeCmpFunc, rotateCmpFunc, insertionSortCmpFunc at float64.
-/
import Derived.Test.YthldaebinchpdaaSortRow
namespace Go.Proofs.Ythldaebinchpdaa
open Go.ChangeShapes Go.WideShapes Go.ChangeAt Go.RowKit
set_option linter.unusedVariables false

set_option maxHeartbeats 2000000 in
theorem swapRange_ok (g n c a b k hb : Nat) (l : List Nat) (w : World) (hr : RowAt w g l) (hl : l.length = n) (hn : n ≤ 60) (h1 : a + k ≤ b) (h2 : b + k ≤ n) :
    Calls Try.prog 32 #[.slice (some ⟨g, 0, none⟩) n c, .int .i64 a, .int .i64 b, .int .i64 k, cmpF hb] w (Left g w fun l' => l' = swr l a b k) := by
  go_enter Try.func32, Try.ntmps32
  go_wp2_with fail
  go_loopw [10] (fun iv wr => ∃ i : Nat, i ≤ k ∧ iv = .int .i64 i ∧ RowAt wr g (swr l a b i) ∧ Onl g w wr) (fun iv _ => k - (intOf iv).toNat)
  case atStart => exact ⟨0, Nat.zero_le _, rfl, hr, Onl.refl _ _⟩
  case round =>
    obtain ⟨i, hi, rfl, hR, hO⟩ := hrel
    by_cases hlt : i < k
    · have hlen := swr_len l a b i
      have R' := hR.swap (i := a + i) (j := b + i) (by omega) (by omega)
      have c1 := hR.cell (i := a + i) (by omega)
      have c2 := hR.cell (i := b + i) (by omega)
      have f1 := hR.frozen (a + i)
      have f2 := hR.frozen (b + i)
      obtain ⟨u, c3⟩ := hR.cell2 (i := a + i) (j := b + i) (by omega) (by omega) (.float .f64 (G (swr l a b i) (b + i)))
      have R2 : RowAt _ g (swr l a b (i + 1)) := R'
      have HR' := Lib.hid R2
      have HO := Lib.hid hO
      clear hR hr R' R2 hO hlen
      obtain ⟨p, hp⟩ : ∃ p, p = a + i := ⟨_, rfl⟩
      obtain ⟨q, hq⟩ : ∃ p, p = b + i := ⟨_, rfl⟩
      have pa : (0 : Int) ≤ (a : Int) + (i : Int) := by omega
      have pb : (0 : Int) ≤ (b : Int) + (i : Int) := by omega
      have ba : (a : Int) + (i : Int) < (n : Int) := by omega
      have bb : (b : Int) + (i : Int) < (n : Int) := by omega
      have ra : IntKind.i64.wrap ((a : Int) + (i : Int)) = (a : Int) + (i : Int) := by rw [IntKind.wrap_i64]; omega
      have rb : IntKind.i64.wrap ((b : Int) + (i : Int)) = (b : Int) + (i : Int) := by rw [IntKind.wrap_i64]; omega
      have ea : ((a : Int) + (i : Int)).toNat = p := by omega
      have eb : ((b : Int) + (i : Int)).toNat = q := by omega
      rw [← hp] at c1 f1 c3 HR'
      rw [← hq] at c2 f2 c3 HR'
      generalize G (swr l a b i) p = x at *
      generalize G (swr l a b i) q = y at *
      clear hp hq
      have stf := run_store_float
      go_wp2_with fail
      go_big_region
      clear c1 c2 c3 f1 f2 ea eb ra rb
      go_wp2_with fail
      go_roundw
      case rel => exact ⟨i + 1, by omega, by go_num, HR'.out.dr, ((HO.out.st _ _).st _ _).dr⟩
      case measure => simp [intOf]; omega
    · obtain rfl : i = k := by omega
      go_wp2_with fail
      go_end0
      exact ⟨rfl, _, hR, hO, rfl⟩

set_option maxHeartbeats 2000000 in
theorem rotate_ok (g n c a m b hb : Nat) (l : List Nat) (w : World) (hr : RowAt w g l) (hl : l.length = n) (hn : n ≤ 60) (h1 : a < m) (h2 : m < b) (h3 : b ≤ n) :
    Calls Try.prog 31 #[.slice (some ⟨g, 0, none⟩) n c, .int .i64 a, .int .i64 m, .int .i64 b, cmpF hb] w (Left g w fun l' => Upd a b l l' ∧ ∀ k, a ≤ k → k < b → G l' k = rotT l a m b k) := by
  have hsr := fun (w1 : World) (l1 : List Nat) (x y k : Nat) (hr : RowAt w1 g l1) (hl : l1.length = n) (h1 : x + k ≤ y) (h2 : y + k ≤ n) => Lib.hid (swapRange_ok g n c x y k hb l1 w1 hr hl hn h1 h2)
  have e1 : (m : Int) - (a : Int) = ((m - a : Nat) : Int) := by omega
  have e2 : (b : Int) - (m : Int) = ((b - m : Nat) : Int) := by omega
  have E1 := Lib.hid e1
  have E2 := Lib.hid e2
  clear e1 e2
  go_enter Try.func31, Try.ntmps31
  go_wp2_with fail
  go_loopw [10, 11] (fun iv jv wr => ∃ (i j : Nat) (l1 : List Nat), iv = .int .i64 i ∧ jv = .int .i64 j ∧ RowAt wr g l1 ∧ Onl g w wr ∧ Hid (RotI l l1 a m b i j)) (fun iv jv _ => (intOf iv).toNat + (intOf jv).toNat)
  case atStart => exact ⟨m - a, b - m, l, by rw [E1.out], by rw [E2.out], hr, Onl.refl _ _, Lib.hid (RotI.start h1 h2)⟩
  case round =>
    obtain ⟨i, j, l1, rfl, rfl, hR, hO, HI⟩ := hrel
    have hI := HI.out
    have b1 := hI.bi
    have b2 := hI.bj
    have hlen := hI.upd.len
    have kr := hsr wr l1
    clear hI hr E1 E2 hsr
    by_cases hij : i = j
    · subst hij
      have t1 : ((i : Int) != (i : Int)) = false := by simp
      have kc := Lib.hid ((show (((m - i : Nat) : Int)) = (m : Int) - (i : Int) by omega) ▸ (kr (m - i) m i hR (by omega) (by omega) (by omega)).out)
      clear kr
      go_wp2_with fail
      refine kc.out.mono ?_
      rintro e w1 ⟨rfl, l2, hR2, hO2, rfl⟩
      go_wp2_with fail
      go_end0
      exact ⟨rfl, _, hR2, hO.trans hO2, HI.out.stop h1 h2 (by omega)⟩
    · have t1 : ((i : Int) != (j : Int)) = true := bne_iff_ne.2 (by omega)
      by_cases hlt : j < i
      · have hltz : (j : Int) < (i : Int) := by omega
        have kc := Lib.hid ((show (((m - i : Nat) : Int)) = (m : Int) - (i : Int) by omega) ▸ (kr (m - i) m j hR (by omega) (by omega) (by omega)).out)
        have e3 := Lib.hid (show (i : Int) - (j : Int) = ((i - j : Nat) : Int) by omega)
        have HI2 := Lib.hid (HI.out.left hlt h1 h2 (by omega))
        clear kr hR
        go_wp2_with fail
        refine kc.out.mono ?_
        rintro e w1 ⟨rfl, l2, hR2, hO2, rfl⟩
        go_wp2_with fail
        go_roundw
        case rel => exact ⟨i - j, j, _, by rw [e3.out], rfl, hR2, hO.trans hO2, HI2⟩
        case measure => simp [intOf]; omega
      · have hltz : ¬ (j : Int) < (i : Int) := by omega
        have kc := Lib.hid ((show (((m + j - i : Nat) : Int)) = (m : Int) + (j : Int) - (i : Int) by omega) ▸ (show (((m - i : Nat) : Int)) = (m : Int) - (i : Int) by omega) ▸ (kr (m - i) (m + j - i) i hR (by omega) (by omega) (by omega)).out)
        have e3 := Lib.hid (show (j : Int) - (i : Int) = ((j - i : Nat) : Int) by omega)
        have HI2 := Lib.hid (HI.out.right (by omega) h1 h2 (by omega))
        clear kr hR
        go_wp2_with fail
        refine kc.out.mono ?_
        rintro e w1 ⟨rfl, l2, hR2, hO2, rfl⟩
        go_wp2_with fail
        go_roundw
        case rel => exact ⟨i, j - i, _, rfl, by rw [e3.out], hR2, hO.trans hO2, HI2⟩
        case measure => simp [intOf]; omega

set_option maxHeartbeats 4000000 in
theorem insertion_ok (g n c a b hb : Nat) (l : List Nat) (w : World) (hr : RowAt w g l) (hl : l.length = n) (hn : n ≤ 60) (hx : Box w hb) (hg : hb ≠ g) (h1 : a ≤ b) (h2 : b ≤ n) :
    Calls Try.prog 29 #[.slice (some ⟨g, 0, none⟩) n c, .int .i64 a, .int .i64 b, cmpF hb] w (Left g w fun l' => Upd a b l l' ∧ Sd l' a b) := by
  go_enter Try.func29, Try.ntmps29
  go_wp2_with fail
  go_loopw [8] (fun iv wr => ∃ (i : Nat) (l1 : List Nat), iv = .int .i64 i ∧ a < i ∧ (i ≤ b ∨ i = a + 1) ∧ RowAt wr g l1 ∧ Onl g w wr ∧ Hid (Upd a b l l1 ∧ Sd l1 a i)) (fun iv _ => b + 1 - (intOf iv).toNat)
  case atStart => exact ⟨a + 1, l, by go_num, by omega, .inr rfl, hr, Onl.refl _ _, Lib.hid ⟨Upd.refl _ _ _, Sd.small (Nat.le_refl _)⟩⟩
  case round =>
    clear hr
    obtain ⟨i, l1, rfl, hai, hib, hR, hO, HI⟩ := hrel
    by_cases hlt : i < b
    · obtain ⟨wo, rfl⟩ : ∃ wo : World, wo = wr := ⟨_, rfl⟩
      go_wp2_with fail
      go_loopw [9] (fun jv wr => ∃ (j : Nat) (l2 : List Nat), jv = .int .i64 j ∧ a ≤ j ∧ j ≤ i ∧ RowAt wr g l2 ∧ Onl g w wr ∧ Hid (Upd a b l l2 ∧ InsI l2 a j i)) (fun jv _ => (intOf jv).toNat)
      case atStart => exact ⟨i, l1, rfl, by omega, Nat.le_refl _, hR, hO, Lib.hid ⟨HI.out.1, InsI.start HI.out.2 (by omega)⟩⟩
      case round =>
        clear hR hO HI
        obtain ⟨j, l2, rfl, haj, hji, hR, hO, HI⟩ := hrel
        have hlen := HI.out.1.len
        by_cases hja : a < j
        · have hbx := hx.onl hO hg
          obtain ⟨jp, hjp⟩ : ∃ q, q + 1 = j := ⟨j - 1, by omega⟩
          have zjp : (j : Int) = (jp : Int) + 1 := by omega
          have hjad : decide ((jp : Int) + 1 > (a : Int)) = true := decide_eq_true (by omega)
          have hjaz' : (a : Int) < (jp : Int) + 1 := by omega
          obtain ⟨iN, hiN⟩ : ∃ q, q = j := ⟨_, rfl⟩
          obtain ⟨jN, hjN⟩ : ∃ q, q = j - 1 := ⟨_, rfl⟩
          have ea : ((jp : Int) + 1).toNat = iN := by omega
          have pa : (0 : Int) ≤ (jp : Int) + 1 := by omega
          have ba : (jp : Int) + 1 < (n : Int) := by omega
          have ra : IntKind.i64.wrap ((jp : Int) + 1) = (jp : Int) + 1 := by rw [IntKind.wrap_i64]; omega
          have ec : ((jp : Int)).toNat = jN := by omega
          have pc : (0 : Int) ≤ (jp : Int) := by omega
          have bc : (jp : Int) < (n : Int) := by omega
          have rc : IntKind.i64.wrap ((jp : Int)) = (jp : Int) := by rw [IntKind.wrap_i64]; omega
          have c1 := hR.cell (i := iN) (by omega)
          have c2 := hR.cell (i := jN) (by omega)
          have cc := fun w (h : Box w hb) => Lib.hid (cmp_ok (G l2 iN) (G l2 jN) hb (hR.F iN) (hR.F jN) w h)
          by_cases hk : K l2 j < K l2 (j - 1)
          · have hd : decide (cmpv (G l2 iN) (G l2 jN) < 0) = true := cmpv_t (by rw [hiN, hjN]; exact hk)
            have R' := hR.swap (i := iN) (j := jN) (by omega) (by omega)
            have f1 := hR.frozen iN
            have f2 := hR.frozen jN
            obtain ⟨u, c3⟩ := hR.cell2 (i := iN) (j := jN) (by omega) (by omega) (.float .f64 (G l2 jN))
            have HR' := Lib.hid R'
            have HE := Lib.hid (show swp l2 iN jN = swp l2 j (j - 1) by rw [hiN, hjN])
            have HI2 := Lib.hid (And.intro (HI.out.1.trans (Upd.swap (l := l2) (i := j) (j := j - 1) (a := a) (b := b) (by omega) (by omega) (by omega))) (HI.out.2.step hja (by omega) hk))
            have HO := Lib.hid hO
            have hjN' := Lib.hid (show j - 1 = jp by omega)
            have stf := run_store_float
            clear hk R' hR HI hO
            generalize G l2 iN = x at *
            generalize G l2 jN = y at *
            generalize cmpv x y = z at *
            clear hiN hjN
            go_wp2_with fail
            go_quiet ((go_at_call 27; exact Calls.quiet_of_same (cc _ (by first | exact hbx | exact hbx.drN _)).out))
            go_wp2_with fail
            go_big_region
            clear c1 c2 c3 f1 f2 ea ec ra rc
            go_wp2_with fail
            go_roundw
            case rel => exact ⟨j - 1, swp l2 j (j - 1), by rw [hjN'.out], by omega, by omega, HE.out ▸ HR'.out.drN _, ((HO.out.drN _).st _ _).st _ _, HI2⟩
            case measure => simp [intOf]; omega
          · have hd : decide (cmpv (G l2 iN) (G l2 jN) < 0) = false := cmpv_f (by rw [hiN, hjN]; show K l2 (j - 1) ≤ K l2 j; omega)
            have HI2 := Lib.hid (And.intro HI.out.1 (HI.out.2.stop (.inr (by omega))))
            have HR := Lib.hid hR
            have HO := Lib.hid hO
            clear hk hR HI hO
            generalize G l2 iN = x at *
            generalize G l2 jN = y at *
            generalize cmpv x y = z at *
            clear hiN hjN
            go_wp2_with fail
            go_quiet ((go_at_call 27; exact Calls.quiet_of_same (cc _ (by first | exact hbx | exact hbx.drN _)).out))
            clear c1 c2 ea ec ra rc
            go_wp2_with fail
            go_roundw
            case rel => exact ⟨i + 1, l2, by go_num, by omega, by omega, HR.out.drN _, HO.out.drN _, HI2⟩
            case measure => simp [intOf]; omega
        · have hjad : decide ((j : Int) > (a : Int)) = false := decide_eq_false (by omega)
          have hjaz : ¬ (a : Int) < (j : Int) := by omega
          have HI2 := Lib.hid (And.intro HI.out.1 (HI.out.2.stop (.inl (by omega))))
          go_wp2_with fail
          go_quiet (fail)
          go_wp2_with fail
          go_roundw
          case rel => exact ⟨i + 1, l2, by go_num, by omega, by omega, hR.drN _, hO.drN _, HI2⟩
          case measure => simp [intOf]; omega
    · go_wp2_with fail
      go_end0
      exact ⟨rfl, l1, hR, hO, HI.out.1, HI.out.2.sub (Nat.le_refl _) (by omega)⟩
end Go.Proofs.Ythldaebinchpdaa
