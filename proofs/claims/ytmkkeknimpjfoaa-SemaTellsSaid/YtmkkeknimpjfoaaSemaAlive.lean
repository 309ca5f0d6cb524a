/-
  The laws of sema: alive.
-/
import Derived.Test.YtmkkeknimpjfoaaSemaFew
import Derived.Test.YtmkkeknimpjfoaaSemaTab
namespace Go.Proofs.Ytmkkeknimpjfoaa
open Go.ChangeShapes Go.WideShapes Go.ChangeAt Go.RowKit
set_option maxRecDepth 100000
set_option linter.unusedVariables false
set_option linter.unusedSimpArgs false

theorem key8 : IsKey 8 := ⟨by decide, by decide⟩
set_option maxHeartbeats 4000000 in
theorem alive_ok (w : World) : Calls Try.prog 11 #[] w fun e w' => e = .returned (.bool true) ∧ Gr w w' := by
  obtain ⟨Q1, i1, e1, h1⟩ := AcqR.any [] 8 4 false
  have C1 := Lib.hid (Acquire_is (w := w) (A := none) (n := 0) (c := 0) SMem.nil_ (Nat.le_refl _) (Nat.zero_le _) (a := 8) ⟨by decide, by decide⟩ (who := 4) ⟨by decide, by decide⟩ h1)
  have H1 := Lib.hid h1
  clear h1
  go_enter Try.func11, Try.ntmps11
  go_wp2_with fail
  with_reducible refine C1.out.mono ?_
  rintro ee w1 ⟨B1, m1, T1, rfl, hT1, hl1, hm1, hp1, g1, _⟩
  have h1 := H1.out
  rw [← hp1] at h1
  obtain rfl : e1 = 0 := h1.must Tab.nil key8 (by decide) (by rw [gt_nil]; simp) (by rw [gt_nil]; decide) (.inr (by decide))
  obtain ⟨_, _, _, _, _, h1'⟩ := h1.plain.resolve_left (fun h => h.1 rfl)
  rw [gt_nil] at h1'
  obtain ⟨_, _, rfl, s1⟩ := h1'.resolve_left (fun h => absurd h.1 (by decide))
  have t1 : gt T1 8 = (0, [4]) := s1.got
  have k1 := s1.tab
  obtain ⟨Q2, i2, e2, h2⟩ := AcqR.any T1 8 2 true
  have C2 := Lib.hid (Acquire_is hT1 hl1 hm1 (a := 8) ⟨by decide, by decide⟩ (who := 2) ⟨by decide, by decide⟩ h2)
  have H2 := Lib.hid h2
  have K1 := Lib.hid k1
  have HT1 := Lib.hid t1
  have G1 := Lib.hid g1
  obtain ⟨N1, hN1⟩ : ∃ N, T1.length = N := ⟨_, rfl⟩
  rw [hN1] at C2
  clear C1 H1 h1 h1' s1 t1 k1 h2 hT1 hl1 hm1 hp1 g1
  simp only [Array.append_assoc, List.append_toArray, List.cons_append, List.nil_append]
  rw [hN1]
  clear hN1
  go_wp2_with fail
  with_reducible refine C2.out.mono ?_
  rintro ee w2 ⟨B2, m2, T2, rfl, hT2, hl2, hm2, hp2, g2, _⟩
  have h2 := H2.out
  rw [← hp2] at h2
  obtain rfl : e2 = 0 := h2.must K1.out key8 (by decide) (by rw [HT1.out]; decide) (by rw [HT1.out]; decide) (.inl ((gt_has K1.out.2).2 (by rw [HT1.out]; decide)))
  obtain ⟨_, _, _, _, _, h2'⟩ := h2.plain.resolve_left (fun h => h.1 rfl)
  rw [HT1.out] at h2'
  obtain ⟨_, _, rfl, s2⟩ := h2'.resolve_left (fun h => absurd h.1 (by decide))
  have t2 : gt T2 8 = (0, [2, 4]) := s2.got
  have k2 := s2.tab
  obtain ⟨Q3, x3, e3, h3⟩ := RelR.any T2 8
  have C3 := Lib.hid (Release_is hT2 hl2 hm2 (a := 8) ⟨by decide, by decide⟩ h3)
  have H3 := Lib.hid h3
  have K2 := Lib.hid k2
  have HT2 := Lib.hid t2
  have G2 := Lib.hid (G1.out.trans g2)
  obtain ⟨N2, hN2⟩ : ∃ N, T2.length = N := ⟨_, rfl⟩
  rw [hN2] at C3
  clear C2 H2 h2 h2' s2 t2 k2 h3 hT2 hl2 hm2 hp2 g2
  simp only [Array.append_assoc, List.append_toArray, List.cons_append, List.nil_append]
  rw [hN2]
  clear hN2
  go_wp2_with fail
  with_reducible refine C3.out.mono ?_
  rintro ee w3 ⟨B3, m3, T3, rfl, hT3, hl3, hm3, hp3, g3, _⟩
  have h3 := H3.out
  rw [← hp3] at h3
  obtain rfl : e3 = 0 := h3.must K2.out key8 (by rw [HT2.out]; decide) (.inl ((gt_has K2.out.2).2 (by rw [HT2.out]; decide)))
  obtain ⟨_, _, _, h3'⟩ := h3.plain.resolve_left (fun h => h.1 rfl)
  rw [HT2.out] at h3'
  obtain ⟨r, _, hx, _⟩ := h3'.resolve_right (fun h => absurd h.1 (by decide))
  obtain rfl : x3 = 2 := by simp at hx; exact hx.1.symm
  have G3 := Lib.hid (G2.out.trans g3)
  clear C3 H3 h3 h3' hT3 hl3 hm3 hp3 g3 hx
  simp only [Array.append_assoc, List.append_toArray, List.cons_append, List.nil_append]
  go_wp2_with fail
  go_ret
  exact ⟨rfl, G3.out⟩
end Go.Proofs.Ytmkkeknimpjfoaa
