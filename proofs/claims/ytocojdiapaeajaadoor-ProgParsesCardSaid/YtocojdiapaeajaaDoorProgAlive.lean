/-
  The laws of prog: alive, few; empty rows as composite literals build them.
-/
import Derived.Test.YtocojdiapaeajaaDoorProgText
namespace Go.Proofs.YtocojdiapaeajaaDoor
open Go.ChangeShapes Go.WideShapes Go.ChangeAt Go.RowKit
set_option linter.unusedVariables false
set_option linter.unusedSimpArgs false
set_option maxRecDepth 100000
namespace P12

theorem aown_empty {w : World} {base g : Nat} (h : Blk w g #[] 38) (hb : base ≤ g) : AOwn w base (.slice (some ⟨g, 0, none⟩) 0 0) [] :=
  ⟨rfl, .inr ⟨g, 0, #[], rfl, hb, h, Nat.le_refl _, Nat.zero_le _, rfl, rfl⟩⟩
theorem pown_empty {w : World} {base lo g : Nat} {t : TypeId} (h : Blk w g #[] t) (hb : base ≤ g) : POwn w base lo (some ⟨g, 0, none⟩) 0 0 [] :=
  ⟨⟨⟨rfl, by simp, fun h => absurd h (by omega)⟩, Nat.le_refl _, Nat.zero_le _, .inr ⟨g, 0, rfl, hb, h.lt, fun j hj => absurd hj (by omega)⟩⟩, by simp, by simp⟩
def aliveT : Bs := [108, 111, 99, 107, 32, 48, 59, 32, 119, 111, 114, 107, 32, 53, 59, 32, 117, 110, 108, 111, 99, 107, 32, 48]
set_option maxHeartbeats 4000000 in
theorem alive_is {w : World} (hg : Glob w) : Calls Tryd.prog 10 #[] w fun e w' => e = .returned (.bool true) ∧ Gr w w' := by
  have c1 := Parse_is (t := aliveT) (by decide) hg prs_alive
  rw [show bs aliveT = ({ data := #[108, 111, 99, 107, 32, 48, 59, 32, 119, 111, 114, 107, 32, 53, 59, 32, 117, 110, 108, 111, 99, 107, 32, 48] } : ByteArray) from rfl] at c1
  have c1 := Lib.hid c1
  go_enter Tryd.func10, Tryd.ntmps10
  go_wp2_with fail
  with_reducible refine c1.out.mono ?_
  rintro e w1 ⟨⟨A, n, c, rfl, R, hR, hown⟩, hb1⟩
  obtain ⟨x, rfl⟩ : ∃ x, R = [x] := by
    have h1 := congrArg List.length hR
    unfold pl at h1
    rw [List.length_map] at h1
    exact List.length_eq_one_iff.1 h1
  have hx : x.l = [(0, 0), (3, 5), (2, 0)] := by simpa [pl] using hR
  have hm := hown.mem
  obtain rfl : n = 1 := hm.len.symm
  obtain ⟨b, off, y, rfl, hbl, hy, hok, c0⟩ := hm.at_ (k := 0) (by omega)
  obtain rfl : x = y := by simpa using hy
  obtain ⟨xA, xn, xc, xl⟩ := x
  dsimp only at hx c0
  subst hx
  have hok' : Mem w1 xA xn [(0, 0), (3, 5), (2, 0)] := hok.1
  obtain rfl : xn = 3 := hok'.1.symm
  obtain ⟨b2, off2, z, rfl, hbl2, hz, _, _, d0, d1⟩ := hok'.at_ (k := 1) (by omega)
  obtain rfl : (3, 5) = z := by simpa using hz
  have c2 := Lib.hid (Tidy_is (c := xc) (l := [(0, 0), (3, 5), (2, 0)]) (B := true) (by decide) (by omega) w1 hok')
  dsimp only at d0 d1
  simp only [Nat.add_zero, Nat.zero_mul, Nat.one_mul] at c0 d0 d1
  have HB := Lib.hid hb1
  clear hm hy hz hok hok' hown hb1 hR
  go_wp2_with fail
  with_reducible refine c2.out.mono ?_
  rintro e w2 ⟨rfl, hb2⟩
  go_wp2_with fail
  go_ret
  exact ⟨rfl, HB.out.trans hb2⟩

/-- As many as the laws take. -/
def cutV (x : PV) : PV := ⟨x.A, if 70 < x.n then 70 else x.n, x.c, x.l.take 70⟩
theorem cutV_ok {w : World} {x : PV} (h : x.ok w) : (cutV x).ok w := by
  obtain ⟨h1, h2, h3⟩ := h
  refine ⟨?_, ?_, h3⟩
  · show Mem w x.A (if 70 < x.n then 70 else x.n) (x.l.take 70)
    split
    · exact h1.take_ 70 (by omega)
    · rw [List.take_of_length_le (by have := h1.1; omega)]
      exact h1
  · show (if 70 < x.n then 70 else x.n) ≤ x.c
    split <;> omega
def fewP (l : List (List Ac)) : List (List Ac) := (l.take 10).map fun p => p.take 70
theorem take_snoc {α : Type} {l : List α} {k : Nat} {x : α} (h : l[k]? = some x) : l.take (k + 1) = l.take k ++ [x] := by
  rw [List.take_add_one, h]; rfl
set_option maxHeartbeats 4000000 in
theorem few_is {w : World} {A : Option Addr} {n c : Nat} {L : List PV} (hm : PMem w A n L) (hc : n ≤ c) (hn : n ≤ 9223372036854775807) :
    Calls Tryd.prog 12 #[.slice A n c] w fun e w' => (∃ B m d R, e = .returned (.slice B m d) ∧ pl R = fewP (pl L) ∧ m ≤ 10 ∧ POwn w' w.heap.size 0 B m d R) ∧ Gr w w' := by
  have hlen := hm.len
  obtain ⟨N, hN⟩ : ∃ N : Nat, (if (10 : Int) < (n : Int) then (10 : Int) else (n : Int)) = (N : Int) ∧ N ≤ n ∧ N ≤ 10 ∧ L.take 10 = L.take N := by
    by_cases h : 10 < n
    · exact ⟨10, by rw [if_pos (by omega)]; rfl, by omega, by omega, rfl⟩
    · exact ⟨n, by rw [if_neg (by omega)], by omega, by omega, by rw [List.take_of_length_le (by omega), List.take_of_length_le (by omega)]⟩
  obtain ⟨hN, hNn, hN10, htk⟩ := hN
  have hNm : min (n : Int) 10 = (N : Int) := by rw [← hN]; split <;> omega
  have HM := Lib.hid hm
  have HTK := Lib.hid htk
  have h0 : (0 : Int) ≤ (N : Int) := by omega
  have h1 : (N : Int) ≤ (c : Int) := by omega
  clear hm htk
  go_enter Tryd.func12, Tryd.ntmps12
  go_wp2_with fail
  go_loopw [3, 12] (fun O i wr => ∃ (k : Nat) (B : Option Addr) (d : Nat), k ≤ N ∧ i = .int .i64 (k : Int) ∧ O = .slice B k d ∧ Hid (POwn wr w.heap.size 0 B k d ((L.take k).map cutV)) ∧ Hid (Gr w wr)) (fun _ i _ => N - (intOf i).toNat)
  case atStart => exact ⟨0, none, 0, Nat.zero_le _, rfl, rfl, Lib.hid POwn.nil, Lib.hid (Gr.refl _)⟩
  case round =>
    obtain ⟨k, B, d, hk, rfl, rfl, HR, HG⟩ := hrel
    by_cases hlt : k < N
    · obtain ⟨b, off, x, rfl, hbl, hx, hok, d0⟩ := (HM.out.gr HG.out).at_ (show k < n by omega)
      have hxold : x.ok w := HM.out.2 x (List.mem_of_getElem? hx)
      have HX := Lib.hid (show (L.take (k + 1)).map cutV = (L.take k).map cutV ++ [cutV x] from by rw [take_snoc hx, List.map_append]; rfl)
      have k0 : (0 : Int) ≤ (k : Int) := by omega
      have k1 : (k : Int) < (N : Int) := by omega
      obtain ⟨q, hq⟩ : ∃ q, (if 70 < x.n then 70 else x.n) = q := ⟨_, rfl⟩
      have hqi : (if (70 : Int) < (x.n : Int) then (70 : Int) else (x.n : Int)) = (q : Int) := by rw [← hq]; split <;> split <;> omega
      have hqm : min (x.n : Int) 70 = (q : Int) := by rw [← hqi]; split <;> omega
      have q0 : (0 : Int) ≤ (q : Int) := by omega
      have q1 : (q : Int) ≤ (x.c : Int) := by have := hok.2.1; rw [← hq]; split <;> omega
      have hcv : cutV x = ⟨x.A, q, x.c, x.l.take 70⟩ := by unfold cutV; rw [hq]
      have g1 := (Gr.refl wr).al (.cells #[.slice x.A q x.c] 32)
      have hcok : (cutV x).ok (wr.alloc (.cells #[.slice x.A q x.c] 32)) := (cutV_ok hok).gr g1
      have HPM := Lib.hid (pmem_one (x := cutV x) (by rw [hcv]; exact Blk.new wr #[.slice x.A q x.c] 32) hcok)
      have HOW := Lib.hid (HR.out.gr g1)
      have hlate := HR.out.late
      have hws := HG.out.size
      have HOFF : Hid (∀ z ∈ [cutV x], 0 < z.n → ∀ j, z.A.map (·.block) = some j → 0 ≤ j ∧ j < (wr.alloc (.cells #[.slice x.A q x.c] 32)).heap.size ∧ B.map (·.block) ≠ some j) := Lib.hid fun z hz hz0 j hj => by
        rw [List.mem_singleton] at hz
        subst hz
        obtain ⟨b', off', e, hb', _⟩ := (cutV_ok hxold).1.2.2 hz0
        rw [e] at hj
        simp at hj
        refine ⟨Nat.zero_le _, by rw [World.size_alloc]; omega, fun e2 => ?_⟩
        have := hlate _ e2
        omega
      have HG2 := Lib.hid (HG.out.trans g1)
      have hbase : w.heap.size ≤ (wr.alloc (.cells #[.slice x.A q x.c] 32)).heap.size := HG2.out.size
      have HLT := Lib.hid hlate
      clear hx hok g1 hcok hcv hq hxold hlate
      go_wp2_with (at_builtin; refine Mark.stop ?_)
      refine Mark.go ?_
      refine wpList_append_progs (news := [cutV x]) rfl (.tmp 16) (.tmp 22) rfl rfl rfl HOW.out HPM.out HOFF.out (by omega) hbase ?_
      intro A' c' w3 hG
      have HP3 := hG.1
      rw [← HX.out] at HP3
      have HP3 := Lib.hid HP3
      have HG3 := Lib.hid (HG2.out.gb hG.2 (fun j e => HLT.out j e))
      clear hG
      go_wp2_with fail
      go_roundw
      case rel => exact ⟨k + 1, A', c', by omega, by go_num, rfl, HP3, HG3⟩
      case measure => simp [intOf]; omega
    · obtain rfl : k = N := by omega
      have HF := Lib.hid (show pl ((L.take k).map cutV) = fewP (pl L) from by
        unfold pl fewP
        rw [← List.map_take, HTK.out, List.map_map, List.map_map]
        rfl)
      go_wp2_with fail
      go_ret
      exact ⟨⟨B, k, d, _, rfl, HF.out, hN10, HR.out⟩, HG.out⟩
end P12
end Go.Proofs.YtocojdiapaeajaaDoor
