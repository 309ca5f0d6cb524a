/-
  The laws of sema: few, alive.
-/
import Derived.Test.YtmkkeknimpjfoaaSemaRefC
namespace Go.Proofs.Ytmkkeknimpjfoaa
open Go.ChangeShapes Go.WideShapes Go.ChangeAt Go.RowKit
set_option maxRecDepth 100000
set_option linter.unusedVariables false
set_option linter.unusedSimpArgs false

section
variable {w : World} {A : Option Addr} {n c : Nat} {L : List SV}
set_option maxHeartbeats 8000000 in
theorem few_row {w0 : World} (hm0 : SMem w0 A n L) (hw : Gr w0 w) (hc : n ≤ c) (hn : n ≤ 9223372036854775807) :
    Calls Try.prog 7 #[.slice A n c] w fun e w' => ∃ B m, e = .returned (.slice B (fewL L).length m) ∧ SRow w' w.heap.size (.slice B (fewL L).length m) (fewL L).length (fewL L) ∧ Gr w w' := by
  have hm := hm0.gr hw
  have hlen := hm.1
  obtain ⟨N, hN⟩ : ∃ N, (min (n : Int) 70).toNat = N := ⟨_, rfl⟩
  have hNn : N ≤ n := by omega
  have hN70 : N ≤ 70 := by omega
  have hi : min (n : Int) 70 = (N : Int) := by omega
  have htk : L.take 70 = L.take N := by
    by_cases h : n ≤ 70
    · rw [List.take_of_length_le (by omega), List.take_of_length_le (by omega)]
    · rw [show N = 70 from by omega]
  have HM := Lib.hid hm
  have HTK := Lib.hid htk
  have HNN := Lib.hid hN
  have h0 : (0 : Int) ≤ (N : Int) := by omega
  have h1 : (N : Int) ≤ (c : Int) := by omega
  clear hm hm0 hw htk hN
  go_enter Try.func7, Try.ntmps7
  go_wp2_with fail
  go_loopw [3, 12] (fun O i wr => ∃ k : Nat, k ≤ N ∧ i = .int .i64 (k : Int) ∧ Hid (SRow wr w.heap.size O ((L.take k).map cutS).length ((L.take k).map cutS)) ∧ Hid (Gr w wr)) (fun _ i _ => N - (intOf i).toNat)
  case atStart => exact ⟨0, Nat.zero_le _, rfl, Lib.hid (World.ownsRow_nil w w.heap.size 46 3), Lib.hid (Gr.refl _)⟩
  case round =>
    obtain ⟨k, hk, rfl, HR, HG⟩ := hrel
    by_cases hlt : k < N
    · obtain ⟨b, off, x, rfl, hbl, hx, hok, d0, d1, d2⟩ := (HM.out.gr HG.out).at_ (show k < n by omega)
      have HX := Lib.hid (show (L.take (k + 1)).map cutS = (L.take k).map cutS ++ [cutS x] from by rw [take_snoc hx, List.map_append]; rfl)
      have k0 : (0 : Int) ≤ (k : Int) := by omega
      have k1 : (k : Int) < (N : Int) := by omega
      have g1 := (Gr.refl wr).al (.cells #[.int .i64 x.addr, .int .i64 x.cnt, .slice x.A x.n x.c] 46)
      have hxc := hok.2.2.2.1
      have hxm := hok.2.2.2.2
      have HY : Hid ((min (x.n : Int) 70).toNat = (cutS x).n ∧ (cutS x).addr = x.addr ∧ (cutS x).cnt = x.cnt ∧ (cutS x).A = x.A ∧ (cutS x).c = x.c) := Lib.hid ⟨by show _ = if 70 < x.n then 70 else x.n; split <;> omega, rfl, rfl, rfl, rfl⟩
      have hl : ((L.take k).map cutS).length ≤ 1000000 := by rw [List.length_map, List.length_take]; omega
      clear hx hok g1
      obtain ⟨y, hy⟩ : ∃ y, cutS x = y := ⟨_, rfl⟩
      rw [hy] at HY HX
      clear hy
      have HG1 := Lib.hid ((Gr.refl wr).al (.cells #[.int .i64 y.addr, .int .i64 y.cnt, .slice y.A y.n y.c] 46))
      obtain ⟨w2, hw2⟩ : ∃ w2, wr.alloc (.cells #[.int .i64 y.addr, .int .i64 y.cnt, .slice y.A y.n y.c] 46) = w2 := ⟨_, rfl⟩
      rw [hw2] at HG1
      have HW2 := Lib.hid hw2
      have g3 := Lib.hid (HG1.out.al (.cells #[.int .i64 y.addr, .int .i64 y.cnt, .slice y.A y.n y.c] 46))
      have HR2 := Lib.hid (srow_gr HR.out g3.out)
      have hws := (HG.out.trans HG1.out).size
      have HBK : Hid (Blk (w2.alloc (.cells #[.int .i64 y.addr, .int .i64 y.cnt, .slice y.A y.n y.c] 46)) (wr.heap.size + 1) #[.int .i64 y.addr, .int .i64 y.cnt, .slice y.A y.n y.c] 46) := Lib.hid (by
        have h := Blk.new w2 #[.int .i64 y.addr, .int .i64 y.cnt, .slice y.A y.n y.c] 46
        rw [← hw2, World.size_alloc, hw2] at h
        exact h)
      clear hw2
      go_wp2_with (at_builtin; refine Mark.stop ?_)
      refine Mark.go ?_
      rw [HY.out.1, ← HY.out.2.1, ← HY.out.2.2.1, ← HY.out.2.2.2.1, ← HY.out.2.2.2.2, HW2.out]
      refine wpList_append_spot (y := y) rfl (.tmp 24) (.tmp 26) rfl rfl rfl HR2.out HBK.out hl (by simp; omega) ?_
      intro g cap w3 hA
      have HG3 := Lib.hid (hA.gr HR2.out (HG.out.trans g3.out) (Nat.le_refl _))
      have HR3 := Lib.hid hA.row
      rw [← HX.out, show ((L.take k).map cutS).length = min k n from by rw [List.length_map, List.length_take, hlen]] at HR3
      clear hA HR2
      go_wp2_with fail
      go_roundw
      case rel => exact ⟨k + 1, by omega, by go_num, HR3, HG3⟩
      case measure => simp [intOf]; omega
    · obtain rfl : k = N := by omega
      have hR := HR.out
      rw [← HTK.out] at hR
      obtain ⟨B, m, rfl, hmem, hle, hmx⟩ := own_smem hR (fun y hy => by
        obtain ⟨x, hx, rfl⟩ := List.mem_map.1 hy
        exact (cutS.ok (HM.out.2.1 x (List.mem_of_mem_take hx))).gr HG.out)
      have HRR := Lib.hid hR
      clear hR HR hmem hle hmx
      go_wp2_with fail
      go_ret
      exact ⟨B, m, rfl, HRR.out, HG.out⟩
theorem few_is (hm : SMem w A n L) (hc : n ≤ c) (hn : n ≤ 9223372036854775807) :
    Calls Try.prog 7 #[.slice A n c] w fun e w' => ∃ B m, e = .returned (.slice B (fewL L).length m) ∧ SMem w' B (fewL L).length (fewL L) ∧ (fewL L).length ≤ m ∧ m ≤ 9223372036854775807 ∧ Gr w w' := by
  refine (few_row hm (Gr.refl w) hc hn).mono ?_
  rintro e w' ⟨B, m, rfl, hr, hg⟩
  obtain ⟨B', m', e, h1, h2, h3⟩ := own_smem hr (fun y hy => (fewL_ok hm y hy).gr hg)
  cases e
  exact ⟨B, m, rfl, h1, h2, h3, hg⟩
end
end Go.Proofs.Ytmkkeknimpjfoaa
