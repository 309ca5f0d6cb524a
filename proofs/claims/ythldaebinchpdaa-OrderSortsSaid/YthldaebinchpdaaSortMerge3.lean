/-
  slices.symMergeCmpFunc at float64: all of it.
-/
import Derived.Test.YthldaebinchpdaaSortMerge
import Derived.Test.YthldaebinchpdaaSortMerge2
namespace Go.Proofs.Ythldaebinchpdaa
open Go.ChangeShapes Go.WideShapes Go.ChangeAt Go.RowKit
set_option linter.unusedVariables false

/-- What symMerge does with rows of less than k floats together. -/
def MergeIs (g n c hb k : Nat) : Prop := ∀ (a m b : Nat) (l : List Nat) (w : World), b - a < k → RowAt w g l → l.length = n → Box w hb → a < m → m < b → b ≤ n → Sd l a m → Sd l m b →
  Calls Try.prog 30 #[.slice (some ⟨g, 0, none⟩) n c, .int .i64 a, .int .i64 m, .int .i64 b, cmpF hb] w (Left g w fun l' => Upd a b l l' ∧ Sd l' a b)
/-- Of two that lie side by side one is none: they are in order. -/
theorem two_sd {l : List Nat} {a s b : Nat} (h1 : Sd l a s) (h2 : Sd l s b) (h : ¬ (a < s ∧ s < b)) (hs : a ≤ s ∧ s ≤ b) : Sd l a b := by
  by_cases e : s = a
  · subst e; exact h2
  · obtain rfl : s = b := by omega
    exact h1

theorem rotT_triv {l : List Nat} {s m e k : Nat} (h : s = m ∨ e = m) (h1 : s ≤ k) (h2 : k < e) : G l k = rotT l s m e k := by
  unfold rotT
  rcases h with rfl | rfl
  · rw [if_pos (by omega), Nat.sub_self, Nat.add_zero]
  · rw [if_neg (by omega), Nat.sub_self, Nat.sub_zero]

set_option maxHeartbeats 16000000 in
set_option maxRecDepth 100000 in
theorem merge_gen (g n c a m b hb : Nat) (l : List Nat) (w : World) (IH : MergeIs g n c hb (b - a)) (hr : RowAt w g l) (hl : l.length = n) (hn : n ≤ 60) (hx : Box w hb) (hg : hb ≠ g) (h0 : a + 1 < m) (h1 : m + 1 < b) (h2 : b ≤ n) (hs1 : Sd l a m) (hs2 : Sd l m b) :
    Calls Try.prog 30 #[.slice (some ⟨g, 0, none⟩) n c, .int .i64 a, .int .i64 m, .int .i64 b, cmpF hb] w (Left g w fun l' => Upd a b l l' ∧ Sd l' a b) := by
  have t1 : ((m : Int) - (a : Int) == 1) = false := beq_eq_false_iff_ne.2 (by omega)
  have t2 : ((b : Int) - (m : Int) == 1) = false := beq_eq_false_iff_ne.2 (by omega)
  have HS1 := Lib.hid hs1
  have HS2 := Lib.hid hs2
  have Hn := Lib.hid hl
  have HIH := Lib.hid IH
  have kro := fun (w1 : World) (x y z : Nat) (hr : RowAt w1 g l) (h1 : x < y) (h2 : y < z) (h3 : z ≤ n) => Lib.hid (rotate_ok g n c x y z hb l w1 hr hl hn h1 h2 h3)
  obtain ⟨mid, hmid⟩ : ∃ h, h = (a + b) / 2 := ⟨_, rfl⟩
  have zmid : ((a : Int) + (b : Int)) / 2 = (mid : Int) := by omega
  have bmid : a < mid ∧ mid < b ∧ 2 * mid ≤ a + b ∧ a + b ≤ 2 * mid + 1 := by omega
  clear hs1 hs2 IH hmid hl
  obtain ⟨s0, r0, hsr, hbr⟩ : ∃ s0 r0 : Nat, ((mid < m ∧ (mid : Int) + (m : Int) - (b : Int) = (s0 : Int) ∧ r0 = mid) ∨ (¬ mid < m ∧ s0 = a ∧ r0 = m)) ∧ (a ≤ s0 ∧ s0 ≤ r0 ∧ r0 ≤ m ∧ r0 ≤ mid ∧ mid + m ≤ b + s0 ∧ (s0 = a ∨ mid + m = b + s0) ∧ (r0 = m ∨ r0 = mid)) := by
    by_cases h : mid < m
    · exact ⟨mid + m - b, mid, .inl ⟨h, by omega, rfl⟩, by omega⟩
    · exact ⟨a, m, .inr ⟨h, rfl, rfl⟩, by omega⟩
  obtain ⟨q1, q2, q3, q4, q5, q6, q7⟩ := hbr
  rcases hsr with ⟨c0, zs, hr0⟩ | ⟨c0, hs0, hr0⟩
  all_goals (
    first
      | (have Z1 : Hid ((mid : Int) + (m : Int) - (b : Int) = (s0 : Int)) := Lib.hid zs
         have Z2 : Hid (r0 = mid) := Lib.hid hr0
         clear hr0)
      | (have Z1 : Hid (s0 = a) := Lib.hid hs0
         have Z2 : Hid (r0 = m) := Lib.hid hr0
         clear hr0 hs0)
    have Q6 := Lib.hid q6
    have Q7 := Lib.hid q7
    clear q6 q7
    go_enter Try.func30, Try.ntmps30
    go_wp2_with fail
    go_loopw [20, 21] (fun iv jv wr => ∃ (s r : Nat), iv = .int .i64 s ∧ jv = .int .i64 r ∧ s0 ≤ s ∧ s ≤ r ∧ r ≤ r0 ∧ RowAt wr g l ∧ Onl g w wr ∧ Hid ((s = s0 ∨ K l (s - 1) ≤ K l (mid + m - s)) ∧ (r = r0 ∨ K l (mid + m - 1 - r) < K l r))) (fun iv jv _ => (intOf jv - intOf iv).toNat)
    case atStart => exact ⟨s0, r0, by first | rfl | rw [Z1.out], by rw [Z2.out], Nat.le_refl _, q2, Nat.le_refl _, hr, Onl.refl _ _, Lib.hid ⟨.inl rfl, .inl rfl⟩⟩
    case round =>
      clear hr
      obtain ⟨s, r, rfl, rfl, hi, hij, hj, hR, hO, HI⟩ := hrel
      by_cases hlt : s < r
      · obtain ⟨h, hh⟩ : ∃ h, h = (s + r) / 2 := ⟨_, rfl⟩
        have zh : ((s : Int) + (r : Int)) / 2 = (h : Int) := by omega
        have bh : s ≤ h ∧ h < r := by omega
        have bn : (h : Int) < (n : Int) := by omega
        obtain ⟨p, hp⟩ : ∃ p, p = mid + m - 1 - h := ⟨_, rfl⟩
        have zp : (mid : Int) + (m : Int) - 1 - (h : Int) = (p : Int) := by omega
        have rp : IntKind.i64.wrap ((mid : Int) + (m : Int) - 1 - (h : Int)) = (p : Int) := by rw [IntKind.wrap_i64]; omega
        have bp : (p : Int) < (n : Int) := by omega
        have hbx := hx.onl hO hg
        have hln := Hn.out
        have c1 := hR.cell (i := h) (by omega)
        have c2 := hR.cell (i := p) (by omega)
        have cc := fun w (hx : Box w hb) => Lib.hid (cmp_ok (G l p) (G l h) hb (hR.F p) (hR.F h) w hx)
        have HR := Lib.hid hR
        have HO := Lib.hid hO
        have HP := Lib.hid hp
        clear hR hO hh hp hln
        by_cases hk : K l p < K l h
        · have hd : decide (cmpv (G l p) (G l h) < 0) = true := cmpv_t hk
          have HI2 : Hid ((s = s0 ∨ K l (s - 1) ≤ K l (mid + m - s)) ∧ (h = r0 ∨ K l (mid + m - 1 - h) < K l h)) := Lib.hid ⟨HI.out.1, .inr (by rw [← HP.out]; exact hk)⟩
          clear hk HI
          generalize G l h = x at *
          generalize G l p = y at *
          generalize cmpv y x = z at *
          go_wp2_with fail
          go_quiet ((go_at_call 27; exact Calls.quiet_of_same (cc _ (by first | exact hbx | exact hbx.drN _)).out))
          go_wp2_with fail
          go_roundw
          case rel => exact ⟨s, h, rfl, rfl, hi, by omega, by omega, HR.out.drN _, HO.out.drN _, HI2⟩
          case measure => simp [intOf]; omega
        · have hd : decide (cmpv (G l p) (G l h) < 0) = false := cmpv_f (by show K l h ≤ K l p; omega)
          have HI2 : Hid ((h + 1 = s0 ∨ K l (h + 1 - 1) ≤ K l (mid + m - (h + 1))) ∧ (r = r0 ∨ K l (mid + m - 1 - r) < K l r)) := Lib.hid ⟨.inr (by rw [show mid + m - (h + 1) = p by have := HP.out; omega]; show K l h ≤ K l p; omega), HI.out.2⟩
          clear hk HI
          generalize G l h = x at *
          generalize G l p = y at *
          generalize cmpv y x = z at *
          go_wp2_with fail
          go_quiet ((go_at_call 27; exact Calls.quiet_of_same (cc _ (by first | exact hbx | exact hbx.drN _)).out))
          go_wp2_with fail
          go_roundw
          case rel => exact ⟨h + 1, r, by go_num, rfl, by omega, by omega, hj, HR.out.drN _, HO.out.drN _, HI2⟩
          case measure => simp [intOf]; omega
      · obtain rfl : s = r := by omega
        obtain ⟨e, he⟩ : ∃ e, e = mid + m - s := ⟨_, rfl⟩
        have ze : (mid : Int) + (m : Int) - (s : Int) = (e : Int) := by omega
        have be : m ≤ e ∧ e ≤ b ∧ mid ≤ e := by omega
        have ba : a ≤ s ∧ s ≤ m ∧ s ≤ mid := by omega
        have hE1 : s = a ∨ mid + m - s = b ∨ K l (s - 1) ≤ K l (mid + m - s) := by
          have := Q6.out
          rcases HI.out.1 with h | h
          · omega
          · exact .inr (.inr h)
        have hE2 : s = m ∨ mid = s ∨ K l (mid + m - s - 1) < K l s := by
          have := Q7.out
          rcases HI.out.2 with h | h
          · omega
          · right; right
            rw [show mid + m - s - 1 = mid + m - 1 - s by omega]; exact h
        have HE1 := Lib.hid hE1
        have HE2 := Lib.hid hE2
        have He := Lib.hid he
        have hln := Hn.out
        have Hmk := fun (l1 : List Nat) u r => Lib.hid (MrgI.mk' (l1 := l1) HS1.out HS2.out ⟨ba.1, ba.2.1⟩ (by omega) ba.2.2 HE1.out HE2.out u r)
        clear hE1 hE2 he hln HI
        rcases (show (s < m ∧ s < mid ∧ a < s ∧ e < b) ∨ (s < m ∧ s < mid ∧ a < s ∧ ¬ e < b) ∨ (s < m ∧ s < mid ∧ ¬ a < s ∧ e < b) ∨ (s < m ∧ s < mid ∧ ¬ a < s ∧ ¬ e < b) ∨ (s < m ∧ ¬ s < mid ∧ a < s ∧ e < b) ∨ (s < m ∧ ¬ s < mid ∧ a < s ∧ ¬ e < b) ∨ (¬ s < m ∧ s < mid ∧ a < s) ∨ (¬ s < m ∧ ¬ s < mid ∧ a < s) by omega) with ⟨d1, d2, d3, d4⟩ | ⟨d1, d2, d3, d4⟩ | ⟨d1, d2, d3, d4⟩ | ⟨d1, d2, d3, d4⟩ | ⟨d1, d2, d3, d4⟩ | ⟨d1, d2, d3, d4⟩ | ⟨d1, d2, d3⟩ | ⟨d1, d2, d3⟩
        · have d5 : m < e := by have := He.out; omega
          have d6 : mid < e := by have := He.out; omega
          have kc := kro wr s m e hR d1 d5 (by omega)
          go_wp2_with fail
          refine kc.out.mono ?_
          rintro ee w1 ⟨rfl, l1, R1, O1, U1, f1⟩
          replace O1 := hO.trans O1
          have M := Hmk l1 (fun k hk => U1.out k (by have := He.out; omega)) (fun k k1 k2 => by rw [f1 k k1 (by have := He.out; omega), He.out])
          have U1' := Lib.hid (U1.wide (c := a) (d := b) ba.1 be.2.1)
          clear U1 f1 kc Hmk
          have M3 := Lib.hid (show Sd l1 mid e from (by rw [He.out]; exact M.out.s3))
          have M4 := Lib.hid (show Sd l1 e b from (by rw [He.out]; exact M.out.s4))
          have len1 := Lib.hid (U1'.out.len.trans Hn.out)
          have kl := Lib.hid (HIH.out a s mid l1 w1 (by omega) R1 len1.out (hx.onl O1 hg) d3 d2 (by omega) M.out.s1 M.out.s2)
          go_wp2_with fail
          refine kl.out.mono ?_
          rintro ee w2 ⟨rfl, l2, R2, O2, U2, S2⟩
          replace O2 := O1.trans O2
          clear kl
          have HU2 := Lib.hid U2
          have HD2 := Lib.hid S2
          clear U2 S2
          have len2 := Lib.hid (HU2.out.len.trans len1.out)
          have M3' := Lib.hid (M3.out.out HU2.out (.inr (Nat.le_refl _)))
          have M4' := Lib.hid (M4.out.out HU2.out (.inr be.2.2))
          have kt := Lib.hid (HIH.out mid e b l2 w2 (by omega) R2 len2.out (hx.onl O2 hg) d6 d4 h2 M3'.out M4'.out)
          go_wp2_with fail
          refine kt.out.mono ?_
          rintro ee w3 ⟨rfl, l3, R3, O3, U3, S3⟩
          replace O3 := O2.trans O3
          go_wp2_with fail
          go_end0
          exact ⟨rfl, l3, R3, O3, U1'.out.trans ((HU2.out.wide (Nat.le_refl _) (by omega)).trans (U3.wide (by omega) (Nat.le_refl _))), M.out.stop HU2.out HD2.out U3 S3⟩
        · have d5 : m < e := by have := He.out; omega
          have d6 : mid < e := by have := He.out; omega
          have kc := kro wr s m e hR d1 d5 (by omega)
          go_wp2_with fail
          refine kc.out.mono ?_
          rintro ee w1 ⟨rfl, l1, R1, O1, U1, f1⟩
          replace O1 := hO.trans O1
          have M := Hmk l1 (fun k hk => U1.out k (by have := He.out; omega)) (fun k k1 k2 => by rw [f1 k k1 (by have := He.out; omega), He.out])
          have U1' := Lib.hid (U1.wide (c := a) (d := b) ba.1 be.2.1)
          clear U1 f1 kc Hmk
          have M3 := Lib.hid (show Sd l1 mid e from (by rw [He.out]; exact M.out.s3))
          have M4 := Lib.hid (show Sd l1 e b from (by rw [He.out]; exact M.out.s4))
          have len1 := Lib.hid (U1'.out.len.trans Hn.out)
          have kl := Lib.hid (HIH.out a s mid l1 w1 (by omega) R1 len1.out (hx.onl O1 hg) d3 d2 (by omega) M.out.s1 M.out.s2)
          go_wp2_with fail
          refine kl.out.mono ?_
          rintro ee w2 ⟨rfl, l2, R2, O2, U2, S2⟩
          replace O2 := O1.trans O2
          clear kl
          have HU2 := Lib.hid U2
          have HD2 := Lib.hid S2
          clear U2 S2
          have len2 := Lib.hid (HU2.out.len.trans len1.out)
          have M3' := Lib.hid (M3.out.out HU2.out (.inr (Nat.le_refl _)))
          have M4' := Lib.hid (M4.out.out HU2.out (.inr be.2.2))
          have S3 := two_sd M3'.out M4'.out (by omega) ⟨be.2.2, be.2.1⟩
          have HD3 := Lib.hid S3
          clear S3
          go_wp2_with fail
          go_end0
          exact ⟨rfl, l2, R2, O2, U1'.out.trans (HU2.out.wide (Nat.le_refl _) (by omega)), M.out.stop HU2.out HD2.out (Upd.refl _ _ _) HD3.out⟩
        · have d5 : m < e := by have := He.out; omega
          have d6 : mid < e := by have := He.out; omega
          have kc := kro wr s m e hR d1 d5 (by omega)
          go_wp2_with fail
          refine kc.out.mono ?_
          rintro ee w1 ⟨rfl, l1, R1, O1, U1, f1⟩
          replace O1 := hO.trans O1
          have M := Hmk l1 (fun k hk => U1.out k (by have := He.out; omega)) (fun k k1 k2 => by rw [f1 k k1 (by have := He.out; omega), He.out])
          have U1' := Lib.hid (U1.wide (c := a) (d := b) ba.1 be.2.1)
          clear U1 f1 kc Hmk
          have M3 := Lib.hid (show Sd l1 mid e from (by rw [He.out]; exact M.out.s3))
          have M4 := Lib.hid (show Sd l1 e b from (by rw [He.out]; exact M.out.s4))
          have len1 := Lib.hid (U1'.out.len.trans Hn.out)
          have S2 := two_sd M.out.s1 M.out.s2 (by omega) ⟨ba.1, ba.2.2⟩
          obtain ⟨l2, hl2⟩ : ∃ l2, l2 = l1 := ⟨_, rfl⟩
          rw [← hl2] at S2 R1
          have U2 : Upd a mid l1 l2 := by rw [hl2]; exact Upd.refl _ _ _
          obtain ⟨w2, hw2⟩ : ∃ w2, w2 = w1 := ⟨_, rfl⟩
          subst hw2
          have R2 := R1
          have O2 := O1
          clear hl2
          have HU2 := Lib.hid U2
          have HD2 := Lib.hid S2
          clear U2 S2
          have len2 := Lib.hid (HU2.out.len.trans len1.out)
          have M3' := Lib.hid (M3.out.out HU2.out (.inr (Nat.le_refl _)))
          have M4' := Lib.hid (M4.out.out HU2.out (.inr be.2.2))
          have kt := Lib.hid (HIH.out mid e b l2 w2 (by omega) R2 len2.out (hx.onl O2 hg) d6 d4 h2 M3'.out M4'.out)
          go_wp2_with fail
          refine kt.out.mono ?_
          rintro ee w3 ⟨rfl, l3, R3, O3, U3, S3⟩
          replace O3 := O2.trans O3
          go_wp2_with fail
          go_end0
          exact ⟨rfl, l3, R3, O3, U1'.out.trans ((HU2.out.wide (Nat.le_refl _) (by omega)).trans (U3.wide (by omega) (Nat.le_refl _))), M.out.stop HU2.out HD2.out U3 S3⟩
        · have d5 : m < e := by have := He.out; omega
          have d6 : mid < e := by have := He.out; omega
          have kc := kro wr s m e hR d1 d5 (by omega)
          go_wp2_with fail
          refine kc.out.mono ?_
          rintro ee w1 ⟨rfl, l1, R1, O1, U1, f1⟩
          replace O1 := hO.trans O1
          have M := Hmk l1 (fun k hk => U1.out k (by have := He.out; omega)) (fun k k1 k2 => by rw [f1 k k1 (by have := He.out; omega), He.out])
          have U1' := Lib.hid (U1.wide (c := a) (d := b) ba.1 be.2.1)
          clear U1 f1 kc Hmk
          have M3 := Lib.hid (show Sd l1 mid e from (by rw [He.out]; exact M.out.s3))
          have M4 := Lib.hid (show Sd l1 e b from (by rw [He.out]; exact M.out.s4))
          have len1 := Lib.hid (U1'.out.len.trans Hn.out)
          have S2 := two_sd M.out.s1 M.out.s2 (by omega) ⟨ba.1, ba.2.2⟩
          obtain ⟨l2, hl2⟩ : ∃ l2, l2 = l1 := ⟨_, rfl⟩
          rw [← hl2] at S2 R1
          have U2 : Upd a mid l1 l2 := by rw [hl2]; exact Upd.refl _ _ _
          obtain ⟨w2, hw2⟩ : ∃ w2, w2 = w1 := ⟨_, rfl⟩
          subst hw2
          have R2 := R1
          have O2 := O1
          clear hl2
          have HU2 := Lib.hid U2
          have HD2 := Lib.hid S2
          clear U2 S2
          have len2 := Lib.hid (HU2.out.len.trans len1.out)
          have M3' := Lib.hid (M3.out.out HU2.out (.inr (Nat.le_refl _)))
          have M4' := Lib.hid (M4.out.out HU2.out (.inr be.2.2))
          have S3 := two_sd M3'.out M4'.out (by omega) ⟨be.2.2, be.2.1⟩
          have HD3 := Lib.hid S3
          clear S3
          go_wp2_with fail
          go_end0
          exact ⟨rfl, l2, R2, O2, U1'.out.trans (HU2.out.wide (Nat.le_refl _) (by omega)), M.out.stop HU2.out HD2.out (Upd.refl _ _ _) HD3.out⟩
        · have d5 : ¬ m < e := by have := He.out; omega
          have d6 : mid < e := by have := He.out; omega
          have M := Hmk l (fun _ _ => rfl) (fun k k1 k2 => rotT_triv (by have := He.out; omega) k1 k2)
          have U1' := Lib.hid (Upd.refl a b l)
          obtain ⟨l1, hl1⟩ : ∃ l1, l1 = l := ⟨_, rfl⟩
          rw [← hl1] at M hR
          have U1' : Hid (Upd a b l l1) := Lib.hid (by rw [hl1]; exact Upd.refl a b l)
          obtain ⟨w1, hw1⟩ : ∃ w1, w1 = wr := ⟨_, rfl⟩
          subst hw1
          have R1 := hR
          have O1 := hO
          clear Hmk hl1
          have M3 := Lib.hid (show Sd l1 mid e from (by rw [He.out]; exact M.out.s3))
          have M4 := Lib.hid (show Sd l1 e b from (by rw [He.out]; exact M.out.s4))
          have len1 := Lib.hid (U1'.out.len.trans Hn.out)
          have S2 := two_sd M.out.s1 M.out.s2 (by omega) ⟨ba.1, ba.2.2⟩
          obtain ⟨l2, hl2⟩ : ∃ l2, l2 = l1 := ⟨_, rfl⟩
          rw [← hl2] at S2 R1
          have U2 : Upd a mid l1 l2 := by rw [hl2]; exact Upd.refl _ _ _
          obtain ⟨w2, hw2⟩ : ∃ w2, w2 = w1 := ⟨_, rfl⟩
          subst hw2
          have R2 := R1
          have O2 := O1
          clear hl2
          have HU2 := Lib.hid U2
          have HD2 := Lib.hid S2
          clear U2 S2
          have len2 := Lib.hid (HU2.out.len.trans len1.out)
          have M3' := Lib.hid (M3.out.out HU2.out (.inr (Nat.le_refl _)))
          have M4' := Lib.hid (M4.out.out HU2.out (.inr be.2.2))
          have kt := Lib.hid (HIH.out mid e b l2 w2 (by omega) R2 len2.out (hx.onl O2 hg) d6 d4 h2 M3'.out M4'.out)
          go_wp2_with fail
          refine kt.out.mono ?_
          rintro ee w3 ⟨rfl, l3, R3, O3, U3, S3⟩
          replace O3 := O2.trans O3
          go_wp2_with fail
          go_end0
          exact ⟨rfl, l3, R3, O3, U1'.out.trans ((HU2.out.wide (Nat.le_refl _) (by omega)).trans (U3.wide (by omega) (Nat.le_refl _))), M.out.stop HU2.out HD2.out U3 S3⟩
        · have d5 : ¬ m < e := by have := He.out; omega
          have d6 : mid < e := by have := He.out; omega
          have M := Hmk l (fun _ _ => rfl) (fun k k1 k2 => rotT_triv (by have := He.out; omega) k1 k2)
          have U1' := Lib.hid (Upd.refl a b l)
          obtain ⟨l1, hl1⟩ : ∃ l1, l1 = l := ⟨_, rfl⟩
          rw [← hl1] at M hR
          have U1' : Hid (Upd a b l l1) := Lib.hid (by rw [hl1]; exact Upd.refl a b l)
          obtain ⟨w1, hw1⟩ : ∃ w1, w1 = wr := ⟨_, rfl⟩
          subst hw1
          have R1 := hR
          have O1 := hO
          clear Hmk hl1
          have M3 := Lib.hid (show Sd l1 mid e from (by rw [He.out]; exact M.out.s3))
          have M4 := Lib.hid (show Sd l1 e b from (by rw [He.out]; exact M.out.s4))
          have len1 := Lib.hid (U1'.out.len.trans Hn.out)
          have S2 := two_sd M.out.s1 M.out.s2 (by omega) ⟨ba.1, ba.2.2⟩
          obtain ⟨l2, hl2⟩ : ∃ l2, l2 = l1 := ⟨_, rfl⟩
          rw [← hl2] at S2 R1
          have U2 : Upd a mid l1 l2 := by rw [hl2]; exact Upd.refl _ _ _
          obtain ⟨w2, hw2⟩ : ∃ w2, w2 = w1 := ⟨_, rfl⟩
          subst hw2
          have R2 := R1
          have O2 := O1
          clear hl2
          have HU2 := Lib.hid U2
          have HD2 := Lib.hid S2
          clear U2 S2
          have len2 := Lib.hid (HU2.out.len.trans len1.out)
          have M3' := Lib.hid (M3.out.out HU2.out (.inr (Nat.le_refl _)))
          have M4' := Lib.hid (M4.out.out HU2.out (.inr be.2.2))
          have S3 := two_sd M3'.out M4'.out (by omega) ⟨be.2.2, be.2.1⟩
          have HD3 := Lib.hid S3
          clear S3
          go_wp2_with fail
          go_end0
          exact ⟨rfl, l2, R2, O2, U1'.out.trans (HU2.out.wide (Nat.le_refl _) (by omega)), M.out.stop HU2.out HD2.out (Upd.refl _ _ _) HD3.out⟩
        · have d5 : m < e := by have := He.out; omega
          have d6 : ¬ mid < e := by have := He.out; omega
          have M := Hmk l (fun _ _ => rfl) (fun k k1 k2 => rotT_triv (by have := He.out; omega) k1 k2)
          have U1' := Lib.hid (Upd.refl a b l)
          obtain ⟨l1, hl1⟩ : ∃ l1, l1 = l := ⟨_, rfl⟩
          rw [← hl1] at M hR
          have U1' : Hid (Upd a b l l1) := Lib.hid (by rw [hl1]; exact Upd.refl a b l)
          obtain ⟨w1, hw1⟩ : ∃ w1, w1 = wr := ⟨_, rfl⟩
          subst hw1
          have R1 := hR
          have O1 := hO
          clear Hmk hl1
          have M3 := Lib.hid (show Sd l1 mid e from (by rw [He.out]; exact M.out.s3))
          have M4 := Lib.hid (show Sd l1 e b from (by rw [He.out]; exact M.out.s4))
          have len1 := Lib.hid (U1'.out.len.trans Hn.out)
          have kl := Lib.hid (HIH.out a s mid l1 w1 (by omega) R1 len1.out (hx.onl O1 hg) d3 d2 (by omega) M.out.s1 M.out.s2)
          go_wp2_with fail
          refine kl.out.mono ?_
          rintro ee w2 ⟨rfl, l2, R2, O2, U2, S2⟩
          replace O2 := O1.trans O2
          clear kl
          have HU2 := Lib.hid U2
          have HD2 := Lib.hid S2
          clear U2 S2
          have len2 := Lib.hid (HU2.out.len.trans len1.out)
          have M3' := Lib.hid (M3.out.out HU2.out (.inr (Nat.le_refl _)))
          have M4' := Lib.hid (M4.out.out HU2.out (.inr be.2.2))
          have S3 := two_sd M3'.out M4'.out (by omega) ⟨be.2.2, be.2.1⟩
          have HD3 := Lib.hid S3
          clear S3
          go_wp2_with fail
          go_end0
          exact ⟨rfl, l2, R2, O2, U1'.out.trans (HU2.out.wide (Nat.le_refl _) (by omega)), M.out.stop HU2.out HD2.out (Upd.refl _ _ _) HD3.out⟩
        · have d5 : ¬ m < e := by have := He.out; omega
          have d6 : ¬ mid < e := by have := He.out; omega
          have M := Hmk l (fun _ _ => rfl) (fun k k1 k2 => rotT_triv (by have := He.out; omega) k1 k2)
          have U1' := Lib.hid (Upd.refl a b l)
          obtain ⟨l1, hl1⟩ : ∃ l1, l1 = l := ⟨_, rfl⟩
          rw [← hl1] at M hR
          have U1' : Hid (Upd a b l l1) := Lib.hid (by rw [hl1]; exact Upd.refl a b l)
          obtain ⟨w1, hw1⟩ : ∃ w1, w1 = wr := ⟨_, rfl⟩
          subst hw1
          have R1 := hR
          have O1 := hO
          clear Hmk hl1
          have M3 := Lib.hid (show Sd l1 mid e from (by rw [He.out]; exact M.out.s3))
          have M4 := Lib.hid (show Sd l1 e b from (by rw [He.out]; exact M.out.s4))
          have len1 := Lib.hid (U1'.out.len.trans Hn.out)
          have S2 := two_sd M.out.s1 M.out.s2 (by omega) ⟨ba.1, ba.2.2⟩
          obtain ⟨l2, hl2⟩ : ∃ l2, l2 = l1 := ⟨_, rfl⟩
          rw [← hl2] at S2 R1
          have U2 : Upd a mid l1 l2 := by rw [hl2]; exact Upd.refl _ _ _
          obtain ⟨w2, hw2⟩ : ∃ w2, w2 = w1 := ⟨_, rfl⟩
          subst hw2
          have R2 := R1
          have O2 := O1
          clear hl2
          have HU2 := Lib.hid U2
          have HD2 := Lib.hid S2
          clear U2 S2
          have len2 := Lib.hid (HU2.out.len.trans len1.out)
          have M3' := Lib.hid (M3.out.out HU2.out (.inr (Nat.le_refl _)))
          have M4' := Lib.hid (M4.out.out HU2.out (.inr be.2.2))
          have S3 := two_sd M3'.out M4'.out (by omega) ⟨be.2.2, be.2.1⟩
          have HD3 := Lib.hid S3
          clear S3
          go_wp2_with fail
          go_end0
          exact ⟨rfl, l2, R2, O2, U1'.out.trans (HU2.out.wide (Nat.le_refl _) (by omega)), M.out.stop HU2.out HD2.out (Upd.refl _ _ _) HD3.out⟩)

theorem merge_ok (g n c hb : Nat) (hn : n ≤ 60) (hg : hb ≠ g) : ∀ k, MergeIs g n c hb k
  | 0 => fun a m b l w hk => by omega
  | k + 1 => fun a m b l w hk hr hl hx h1 h2 h3 s1 s2 => by
    by_cases e1 : m ≤ a + 1
    · exact merge_one g n c a m b hb l w hr hl hn hx hg ⟨h1, e1⟩ h2 h3 s2
    · by_cases e2 : b ≤ m + 1
      · exact merge_last g n c a m b hb l w hr hl hn hx hg (by omega) ⟨h2, e2⟩ h3 s1
      · refine merge_gen g n c a m b hb l w (fun a' m' b' l' w' hk' => ?_) hr hl hn hx hg (by omega) (by omega) h3 s1 s2
        exact merge_ok g n c hb hn hg k a' m' b' l' w' (by omega)
end Go.Proofs.Ythldaebinchpdaa
