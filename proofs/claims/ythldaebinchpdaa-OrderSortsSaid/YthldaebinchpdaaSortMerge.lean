/-
  slices.symMergeCmpFunc at float64: where one of both rows is of one float.
-/
import Derived.Test.YthldaebinchpdaaSortA
namespace Go.Proofs.Ythldaebinchpdaa
open Go.ChangeShapes Go.WideShapes Go.ChangeAt Go.RowKit
set_option linter.unusedVariables false

set_option maxHeartbeats 4000000 in
set_option maxRecDepth 100000 in
theorem merge_one (g n c a m b hb : Nat) (l : List Nat) (w : World) (hr : RowAt w g l) (hl : l.length = n) (hn : n ≤ 60) (hx : Box w hb) (hg : hb ≠ g) (h0 : a < m ∧ m ≤ a + 1) (h1 : m < b) (h2 : b ≤ n) (hs : Sd l m b) :
    Calls Try.prog 30 #[.slice (some ⟨g, 0, none⟩) n c, .int .i64 a, .int .i64 m, .int .i64 b, cmpF hb] w (Left g w fun l' => Upd a b l l' ∧ Sd l' a b) := by
  have t2 : ((m : Int) - (a : Int) == 1) = true := beq_iff_eq.2 (by omega)
  have HS := Lib.hid (show Sd l (a + 1) b from (by rw [show a + 1 = m by omega]; exact hs))
  have Hn := Lib.hid hl
  clear hs
  go_enter Try.func30, Try.ntmps30
  go_wp2_with fail
  go_loopw [10, 11] (fun iv jv wr => ∃ (i j : Nat), iv = .int .i64 i ∧ jv = .int .i64 j ∧ a + 1 ≤ i ∧ i ≤ j ∧ j ≤ b ∧ RowAt wr g l ∧ Onl g w wr ∧ Hid ((i = a + 1 ∨ K l (i - 1) < K l a) ∧ (j = b ∨ K l a ≤ K l j))) (fun iv jv _ => (intOf jv - intOf iv).toNat)
  case atStart => exact ⟨m, b, rfl, rfl, by omega, by omega, Nat.le_refl _, hr, Onl.refl _ _, Lib.hid ⟨.inl (by omega), .inl rfl⟩⟩
  case round =>
    clear hr
    obtain ⟨i, j, rfl, rfl, hi, hij, hj, hR, hO, HI⟩ := hrel
    by_cases hlt : i < j
    · obtain ⟨h, hh⟩ : ∃ h, h = (i + j) / 2 := ⟨_, rfl⟩
      have zh : ((i : Int) + (j : Int)) / 2 = (h : Int) := by omega
      have bh : i ≤ h ∧ h < j := by omega
      have bn : (h : Int) < (n : Int) := by omega
      have an : (a : Int) < (n : Int) := by omega
      have hbx := hx.onl hO hg
      have c1 := hR.cell (i := h) (by omega)
      have c2 := hR.cell (i := a) (by omega)
      have cc := fun w (hx : Box w hb) => Lib.hid (cmp_ok (G l h) (G l a) hb (hR.F h) (hR.F a) w hx)
      have HR := Lib.hid hR
      have HO := Lib.hid hO
      clear hR hO hh
      by_cases hk : K l h < K l a
      · have hd : decide (cmpv (G l h) (G l a) < 0) = true := cmpv_t hk
        have HI2 : Hid ((h + 1 = a + 1 ∨ K l (h + 1 - 1) < K l a) ∧ (j = b ∨ K l a ≤ K l j)) := Lib.hid ⟨.inr hk, HI.out.2⟩
        clear hk HI
        generalize G l h = x at *
        generalize G l a = y at *
        generalize cmpv x y = z at *
        go_wp2_with fail
        go_quiet ((go_at_call 27; exact Calls.quiet_of_same (cc _ (by first | exact hbx | exact hbx.drN _)).out))
        go_wp2_with fail
        go_roundw
        case rel => exact ⟨h + 1, j, by go_num, rfl, by omega, by omega, hj, HR.out.drN _, HO.out.drN _, HI2⟩
        case measure => simp [intOf]; omega
      · have hd : decide (cmpv (G l h) (G l a) < 0) = false := cmpv_f (by show K l a ≤ K l h; omega)
        have HI2 : Hid ((i = a + 1 ∨ K l (i - 1) < K l a) ∧ (h = b ∨ K l a ≤ K l h)) := Lib.hid ⟨HI.out.1, .inr (by omega)⟩
        clear hk HI
        generalize G l h = x at *
        generalize G l a = y at *
        generalize cmpv x y = z at *
        go_wp2_with fail
        go_quiet ((go_at_call 27; exact Calls.quiet_of_same (cc _ (by first | exact hbx | exact hbx.drN _)).out))
        go_wp2_with fail
        go_roundw
        case rel => exact ⟨i, h, rfl, rfl, hi, by omega, by omega, HR.out.drN _, HO.out.drN _, HI2⟩
        case measure => simp [intOf]; omega
    · obtain rfl : i = j := by omega
      have HU := Lib.hid (show Upd a b l (shl l a (i - 1 - a)) from (shl_upd (l := l) (a := a) (k := i - 1 - a) (by have := Hn.out; omega)).wide (Nat.le_refl _) (by omega))
      have HD := Lib.hid (shl_sd (l := l) (a := a) (b := b) (i := i) (by have := Hn.out; omega) HS.out ⟨hi, hj⟩ HI.out.1 HI.out.2)
      obtain ⟨wo, rfl⟩ : ∃ wo : World, wo = wr := ⟨_, rfl⟩
      clear HI
      go_wp2_with fail
      go_loopw [13] (fun kv wr => ∃ (k : Nat), kv = .int .i64 k ∧ a ≤ k ∧ k ≤ i - 1 ∧ RowAt wr g (shl l a (k - a)) ∧ Onl g w wr) (fun kv _ => (n - intOf kv).toNat)
      case atStart => exact ⟨a, rfl, Nat.le_refl _, by omega, by rw [Nat.sub_self]; exact hR, hO⟩
      case round =>
        clear hR hO
        obtain ⟨k, rfl, hk1, hk2, hR, hO⟩ := hrel
        by_cases hkt : k < i - 1
        · have hkz : (k : Int) < (i : Int) - 1 := by omega
          have hlen := shl_len l a (k - a)
          have hln := Hn.out
          obtain ⟨k1, hk3⟩ : ∃ q, q = k + 1 := ⟨_, rfl⟩
          have R' := hR.swap (i := k) (j := k1) (by omega) (by omega)
          have e : swp (shl l a (k - a)) k k1 = shl l a (k1 - a) := by
            rw [show k1 - a = k - a + 1 by omega]
            show _ = swp (shl l a (k - a)) (a + (k - a)) (a + (k - a) + 1)
            rw [show a + (k - a) = k by omega, hk3]
          rw [e] at R'
          have c1 := hR.cell (i := k) (by omega)
          have c2 := hR.cell (i := k1) (by omega)
          have f1 := hR.frozen k
          have f2 := hR.frozen k1
          obtain ⟨u, c3⟩ := hR.cell2 (i := k) (j := k1) (by omega) (by omega) (.float .f64 (G (shl l a (k - a)) k1))
          have HR' := Lib.hid R'
          have HO := Lib.hid hO
          have stf := run_store_float
          have pa : (0 : Int) ≤ (k : Int) + 1 := by omega
          have ba : (k : Int) + 1 < (n : Int) := by omega
          have bk : (k : Int) < (n : Int) := by omega
          have ra : IntKind.i64.wrap ((k : Int) + 1) = (k : Int) + 1 := by rw [IntKind.wrap_i64]; omega
          have ea : ((k : Int) + 1).toNat = k1 := by omega
          have HK := Lib.hid hk3
          clear hR R' e hO hlen hln hk3
          generalize G (shl l a (k - a)) k = x at *
          generalize G (shl l a (k - a)) k1 = y at *
          go_wp2_with fail
          go_big_region
          clear c1 c2 c3 f1 f2 ea ra
          go_wp2_with fail
          go_roundw
          case rel => exact ⟨k1, by rw [HK.out]; go_num, by have := HK.out; omega, by have := HK.out; omega, HR'.out.dr, ((HO.out.st _ _).st _ _).dr⟩
          case measure => simp [intOf]; omega
        · obtain rfl : k = i - 1 := by omega
          have hkz : ¬ (((i - 1 : Nat) : Int) < (i : Int) - 1) := by omega
          go_wp2_with fail
          go_end0
          exact ⟨rfl, _, hR, hO, HU.out, HD.out⟩
end Go.Proofs.Ythldaebinchpdaa
