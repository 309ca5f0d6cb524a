/-
  slices.symMergeCmpFunc at float64: where the other one of both rows is of one float.
-/
import Derived.Test.YthldaebinchpdaaSortA
namespace Go.Proofs.Ythldaebinchpdaa
open Go.ChangeShapes Go.WideShapes Go.ChangeAt Go.RowKit
set_option linter.unusedVariables false

set_option maxHeartbeats 4000000 in
set_option maxRecDepth 100000 in
theorem merge_last (g n c a m b hb : Nat) (l : List Nat) (w : World) (hr : RowAt w g l) (hl : l.length = n) (hn : n ≤ 60) (hx : Box w hb) (hg : hb ≠ g) (h0 : a + 1 < m) (h1 : m < b ∧ b ≤ m + 1) (h2 : b ≤ n) (hs : Sd l a m) :
    Calls Try.prog 30 #[.slice (some ⟨g, 0, none⟩) n c, .int .i64 a, .int .i64 m, .int .i64 b, cmpF hb] w (Left g w fun l' => Upd a b l l' ∧ Sd l' a b) := by
  have t1 : ((m : Int) - (a : Int) == 1) = false := beq_eq_false_iff_ne.2 (by omega)
  have t2 : ((b : Int) - (m : Int) == 1) = true := beq_iff_eq.2 (by omega)
  have HS := Lib.hid hs
  have Hn := Lib.hid hl
  clear hs
  go_enter Try.func30, Try.ntmps30
  go_wp2_with fail
  go_loopw [14, 15] (fun iv jv wr => ∃ (i j : Nat), iv = .int .i64 i ∧ jv = .int .i64 j ∧ a ≤ i ∧ i ≤ j ∧ j ≤ m ∧ RowAt wr g l ∧ Onl g w wr ∧ Hid ((i = a ∨ K l (i - 1) ≤ K l m) ∧ (j = m ∨ K l m < K l j))) (fun iv jv _ => (intOf jv - intOf iv).toNat)
  case atStart => exact ⟨a, m, rfl, rfl, by omega, by omega, Nat.le_refl _, hr, Onl.refl _ _, Lib.hid ⟨.inl rfl, .inl rfl⟩⟩
  case round =>
    clear hr
    obtain ⟨i, j, rfl, rfl, hi, hij, hj, hR, hO, HI⟩ := hrel
    by_cases hlt : i < j
    · obtain ⟨h, hh⟩ : ∃ h, h = (i + j) / 2 := ⟨_, rfl⟩
      have zh : ((i : Int) + (j : Int)) / 2 = (h : Int) := by omega
      have bh : i ≤ h ∧ h < j := by omega
      have bn : (h : Int) < (n : Int) := by omega
      have mn : (m : Int) < (n : Int) := by omega
      have hbx := hx.onl hO hg
      have c1 := hR.cell (i := h) (by omega)
      have c2 := hR.cell (i := m) (by omega)
      have cc := fun w (hx : Box w hb) => Lib.hid (cmp_ok (G l m) (G l h) hb (hR.F m) (hR.F h) w hx)
      have HR := Lib.hid hR
      have HO := Lib.hid hO
      clear hR hO hh
      by_cases hk : K l m < K l h
      · have hd : decide (cmpv (G l m) (G l h) < 0) = true := cmpv_t hk
        have HI2 : Hid ((i = a ∨ K l (i - 1) ≤ K l m) ∧ (h = m ∨ K l m < K l h)) := Lib.hid ⟨HI.out.1, .inr hk⟩
        clear hk HI
        generalize G l h = x at *
        generalize G l m = y at *
        generalize cmpv y x = z at *
        go_wp2_with fail
        go_quiet ((go_at_call 27; exact Calls.quiet_of_same (cc _ (by first | exact hbx | exact hbx.drN _)).out))
        go_wp2_with fail
        go_roundw
        case rel => exact ⟨i, h, rfl, rfl, hi, by omega, by omega, HR.out.drN _, HO.out.drN _, HI2⟩
        case measure => simp [intOf]; omega
      · have hd : decide (cmpv (G l m) (G l h) < 0) = false := cmpv_f (by show K l h ≤ K l m; omega)
        have HI2 : Hid ((h + 1 = a ∨ K l (h + 1 - 1) ≤ K l m) ∧ (j = m ∨ K l m < K l j)) := Lib.hid ⟨.inr (by show K l h ≤ K l m; omega), HI.out.2⟩
        clear hk HI
        generalize G l h = x at *
        generalize G l m = y at *
        generalize cmpv y x = z at *
        go_wp2_with fail
        go_quiet ((go_at_call 27; exact Calls.quiet_of_same (cc _ (by first | exact hbx | exact hbx.drN _)).out))
        go_wp2_with fail
        go_roundw
        case rel => exact ⟨h + 1, j, by go_num, rfl, by omega, by omega, hj, HR.out.drN _, HO.out.drN _, HI2⟩
        case measure => simp [intOf]; omega
    · obtain rfl : i = j := by omega
      have HU := Lib.hid (show Upd a b l (shr l m (m - i)) from (shr_upd (l := l) (m := m) (k := m - i) (by omega) (by have := Hn.out; omega)).wide (by omega) (by omega))
      have HD := Lib.hid (shr_sd (l := l) (a := a) (m := m) (i := i) (by have := Hn.out; omega) HS.out ⟨hi, hj⟩ HI.out.1 HI.out.2)
      obtain ⟨wo, rfl⟩ : ∃ wo : World, wo = wr := ⟨_, rfl⟩
      clear HI
      go_wp2_with fail
      go_loopw [17] (fun kv wr => ∃ (k : Nat), kv = .int .i64 k ∧ i ≤ k ∧ k ≤ m ∧ RowAt wr g (shr l m (m - k)) ∧ Onl g w wr) (fun kv _ => (intOf kv).toNat)
      case atStart => exact ⟨m, rfl, by omega, Nat.le_refl _, by rw [Nat.sub_self]; exact hR, hO⟩
      case round =>
        clear hR hO
        obtain ⟨k, rfl, hk1, hk2, hR, hO⟩ := hrel
        by_cases hkt : i < k
        · have hlen := shr_len l m (m - k)
          have hln := Hn.out
          obtain ⟨jp, hjp⟩ : ∃ q, q + 1 = k := ⟨k - 1, by omega⟩
          have zjp : (k : Int) = (jp : Int) + 1 := by omega
          have hkz : (i : Int) < (jp : Int) + 1 := by omega
          have hkd : decide ((jp : Int) + 1 > (i : Int)) = true := decide_eq_true (by omega)
          obtain ⟨iN, hiN⟩ : ∃ q, q = k := ⟨_, rfl⟩
          obtain ⟨jN, hjN⟩ : ∃ q, q = k - 1 := ⟨_, rfl⟩
          have ea : ((jp : Int) + 1).toNat = iN := by omega
          have pa : (0 : Int) ≤ (jp : Int) + 1 := by omega
          have ba : (jp : Int) + 1 < (n : Int) := by omega
          have ra : IntKind.i64.wrap ((jp : Int) + 1) = (jp : Int) + 1 := by rw [IntKind.wrap_i64]; omega
          have ec : ((jp : Int)).toNat = jN := by omega
          have pc : (0 : Int) ≤ (jp : Int) := by omega
          have bc : (jp : Int) < (n : Int) := by omega
          have rc : IntKind.i64.wrap ((jp : Int)) = (jp : Int) := by rw [IntKind.wrap_i64]; omega
          have R' := hR.swap (i := iN) (j := jN) (by omega) (by omega)
          have e : swp (shr l m (m - k)) iN jN = shr l m (m - jp) := by
            rw [show m - jp = m - k + 1 by omega]
            show _ = swp (shr l m (m - k)) (m - (m - k)) (m - (m - k) - 1)
            rw [show m - (m - k) = k by omega, hiN, hjN]
          rw [e] at R'
          have c1 := hR.cell (i := iN) (by omega)
          have c2 := hR.cell (i := jN) (by omega)
          have f1 := hR.frozen iN
          have f2 := hR.frozen jN
          obtain ⟨u, c3⟩ := hR.cell2 (i := iN) (j := jN) (by omega) (by omega) (.float .f64 (G (shr l m (m - k)) jN))
          have HR' := Lib.hid R'
          have HO := Lib.hid hO
          have stf := run_store_float
          clear hR R' e hO hlen hln hiN hjN
          generalize G (shr l m (m - k)) iN = x at *
          generalize G (shr l m (m - k)) jN = y at *
          go_wp2_with fail
          go_big_region
          clear c1 c2 c3 f1 f2 ea ec ra rc
          go_wp2_with fail
          go_roundw
          case rel => exact ⟨jp, rfl, by omega, by omega, HR'.out.dr, ((HO.out.st _ _).st _ _).dr⟩
          case measure => simp [intOf]; omega
        · obtain rfl : k = i := by omega
          go_wp2_with fail
          go_end0
          refine ⟨rfl, _, hR, hO, HU.out, ?_⟩
          rw [show b = m + 1 by omega]
          exact HD.out
end Go.Proofs.Ythldaebinchpdaa
