/-
  deadboltref09: Get.
-/
import Derived.Test.YtmkkeknimpjfoaaRootRefB
namespace Go.Proofs.Ytmkkeknimpjfoaa
open Go.ChangeShapes Go.WideShapes Go.ChangeAt Go.RowKit
set_option linter.unusedVariables false
set_option linter.unusedSimpArgs false

section
variable {w : World} {A : Option Addr} {n c : Nat} {L : List SV}
set_option maxHeartbeats 4000000 in
theorem rGet_is (hm : SMem w A n L) (hn : n ≤ 1000000) {a : Int} (ha : B64 a) {g : Int × Int × List Int} (hg : ∀ x ∈ L, x.addr = a → g = x.pl) (hg2 : ¬ Has L a → g = (a, 0, [])) :
    Calls Try.prog 21 #[.slice A n c, .int .i64 a] w fun e w' => ∃ y : SV, e = .returned (.agg #[.int .i64 y.addr, .int .i64 y.cnt, .slice y.A y.n y.c]) ∧ y.ok w' ∧ y.pl = g ∧ Gr w w' := by
  have hlen := hm.1
  have HM := Lib.hid hm
  have HA := Lib.hid ha
  have HGA := Lib.hid hg
  have HGB := Lib.hid hg2
  have g0 := (Gr.refl w).al (.cells #[.int .i64 0, .int .i64 0, .slice none 0 0] 46)
  have B0 := Blk.new w #[.int .i64 0, .int .i64 0, .slice none 0 0] 46
  clear hm ha hg hg2
  go_enter Try.func21, Try.ntmps21
  go_wp2_with fail
  go_loopw [9] (fun i wr => ∃ k : Nat, k ≤ n ∧ i = .int .i64 (k : Int) ∧ Hid (∀ j y, j < k → L[j]? = some y → y.addr ≠ a) ∧ Hid (Gr w wr) ∧ Hid (Blk wr w.heap.size #[.int .i64 0, .int .i64 0, .slice none 0 0] 46)) (fun i _ => n - (intOf i).toNat)
  case atStart => exact ⟨0, Nat.zero_le _, rfl, Lib.hid (fun j y hj => absurd hj (by omega)), Lib.hid g0, Lib.hid B0⟩
  case round =>
    clear g0 B0
    obtain ⟨k, hk, rfl, HP, HG, HB⟩ := hrel
    by_cases hlt : k < n
    · obtain ⟨b, off, x, rfl, hbl, hx, hok, d0, d1, d2⟩ := (HM.out.gr HG.out).at_ hlt
      have HX := Lib.hid hx
      have k0 : (0 : Int) ≤ (k : Int) := by omega
      have k1 : (k : Int) < (n : Int) := by omega
      have hokw := Lib.hid (HM.out.2.1 x (List.mem_of_getElem? hx))
      have BX := (Blk.new wr #[.int .i64 x.addr, .int .i64 x.cnt, .slice x.A x.n x.c] 46)
      have B1 := HB.out.al (.cells #[.int .i64 x.addr, .int .i64 x.cnt, .slice x.A x.n x.c] 46)
      have hltB := HB.out.lt
      have G1 := HG.out.al (.cells #[.int .i64 x.addr, .int .i64 x.cnt, .slice x.A x.n x.c] 46)
      clear hx hok
      by_cases hxa : x.addr = a
      · have hgx := Lib.hid (HGA.out x (List.mem_of_getElem? HX.out) hxa)
        obtain ⟨p0, z0⟩ := HB.out.at_ (k := 0) rfl
        obtain ⟨p1, z1⟩ := HB.out.at_ (k := 1) rfl
        obtain ⟨p2, z2⟩ := HB.out.at_ (k := 2) rfl
        have HF := Lib.hid ((((HB.out.set 0 (.int .i64 x.addr)).set 1 (.int .i64 x.cnt)).set 2 (.slice x.A x.n x.c)).al (.cells #[.int .i64 x.addr, .int .i64 x.cnt, .slice x.A x.n x.c] 46))
        have HGF := Lib.hid ((((HG.out.st (p := ⟨w.heap.size, 0, none⟩) (Nat.le_refl _) (.int .i64 x.addr)).st (p := ⟨w.heap.size, 1, none⟩) (Nat.le_refl _) (.int .i64 x.cnt)).st (p := ⟨w.heap.size, 2, none⟩) (Nat.le_refl _) (.slice x.A x.n x.c)).al (.cells #[.int .i64 x.addr, .int .i64 x.cnt, .slice x.A x.n x.c] 46))
        subst hxa
        clear BX B1 G1 HB HP
        go_wp2_with fail
        have F := HF.out
        have GF := HGF.out
        clear p0 z0 p1 z1 p2 z2 HF HGF d0 d1 d2
        generalize (((wr.setCell _ _).setCell _ _).setCell _ _).alloc _ = WF at F GF ⊢
        have q0 : WF.cell? ⟨w.heap.size, 0, none⟩ = some (.int .i64 x.addr) := (F.at_ (k := 0) rfl).1
        have q1 : WF.cell? ⟨w.heap.size, 1, none⟩ = some (.int .i64 x.cnt) := (F.at_ (k := 1) rfl).1
        have q2 : WF.cell? ⟨w.heap.size, 2, none⟩ = some (.slice x.A x.n x.c) := (F.at_ (k := 2) rfl).1
        first | refine bodyPost_ret (v := .agg #[.int .i64 x.addr, .int .i64 x.cnt, .slice x.A x.n x.c]) (by simp [results, Try.results21, go_sem, q0, q1, q2]) rfl ?_ | (rw [Exit.noGoto_ret]; refine bodyPost_ret (v := .agg #[.int .i64 x.addr, .int .i64 x.cnt, .slice x.A x.n x.c]) (by simp [results, Try.results21, go_sem, q0, q1, q2]) rfl ?_)
        exact ⟨x, rfl, hokw.out.gr GF, hgx.out.symm, GF⟩
      · have hne : (x.addr == a) = false := beq_eq_false_iff_ne.2 hxa
        have HP' : Hid (∀ j y, j < k + 1 → L[j]? = some y → y.addr ≠ a) := Lib.hid fun j y hj hy => by
          by_cases h : j < k
          · exact HP.out j y h hy
          · obtain rfl : j = k := by omega
            rw [HX.out] at hy
            cases hy
            exact hxa
        have HB1 := Lib.hid B1
        have HG1 := Lib.hid G1
        clear BX B1 G1 hxa
        go_wp2_with fail
        go_roundw
        case rel => exact ⟨k + 1, by omega, by go_num, HP', HG1, HB1⟩
        case measure => simp [intOf]; omega
    · obtain rfl : k = n := by omega
      have hno : ¬ Has L a := by
        rintro ⟨y, hy, e⟩
        obtain ⟨j, hj⟩ := List.mem_iff_getElem?.1 hy
        exact HP.out j y (by have := (List.getElem?_eq_some_iff.1 hj).1; omega) hj e
      have hgx := Lib.hid (HGB.out hno)
      have B1 := HB.out
      obtain ⟨p0, z0⟩ := B1.at_ (k := 0) rfl
      obtain ⟨p1, z1⟩ := B1.at_ (k := 1) rfl
      obtain ⟨p2, z2⟩ := B1.at_ (k := 2) rfl
      have HF := Lib.hid (((B1.set 0 (.int .i64 a)).set 1 (.int .i64 0)).set 2 (.slice none 0 0))
      have HGF := Lib.hid (((HG.out.st (p := ⟨w.heap.size, 0, none⟩) (Nat.le_refl _) (.int .i64 a)).st (p := ⟨w.heap.size, 1, none⟩) (Nat.le_refl _) (.int .i64 0)).st (p := ⟨w.heap.size, 2, none⟩) (Nat.le_refl _) (.slice none 0 0))
      clear B1 HB HP hno
      go_wp2_with fail
      have F := HF.out
      have GF := HGF.out
      clear p0 z0 p1 z1 p2 z2 HF HGF
      generalize ((wr.setCell _ _).setCell _ _).setCell _ _ = WF at F GF ⊢
      have q0 : WF.cell? ⟨w.heap.size, 0, none⟩ = some (.int .i64 a) := (F.at_ (k := 0) rfl).1
      have q1 : WF.cell? ⟨w.heap.size, 1, none⟩ = some (.int .i64 0) := (F.at_ (k := 1) rfl).1
      have q2 : WF.cell? ⟨w.heap.size, 2, none⟩ = some (.slice none 0 0) := (F.at_ (k := 2) rfl).1
      exact bodyPost_ret (v := .agg #[.int .i64 a, .int .i64 0, .slice none 0 0]) (by simp [results, Try.results21, go_sem, q0, q1, q2]) rfl
        ⟨⟨a, 0, none, 0, 0, []⟩, rfl, ok_zero _ HA.out, hgx.out.symm, GF⟩
end
end Go.Proofs.Ytmkkeknimpjfoaa
