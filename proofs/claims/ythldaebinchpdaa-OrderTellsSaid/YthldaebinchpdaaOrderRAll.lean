/-
  deadboltref05.All.
-/
import Derived.Test.YthldaebinchpdaaOrderRSort
namespace Go.Proofs.Ythldaebinchpdaa
open Go.ChangeShapes Go.WideShapes Go.ChangeAt Go.RowKit
set_option linter.unusedVariables false

/-- Block g is just three floats. -/
def Bk (w : World) (g : Nat) (a b c : Nat) : Prop := w.heap[g]? = some (.cells #[.float .f64 a, .float .f64 b, .float .f64 c] 26 (0, 0))
section
variable {w w' : World} {g a b c : Nat}
theorem Bk.lt (h : Bk w g a b c) : g < w.heap.size := (Array.getElem?_eq_some_iff.1 h).1
theorem Bk.new (w : World) (a b c : Nat) : Bk (w.alloc (.cells #[.float .f64 a, .float .f64 b, .float .f64 c] 26)) w.heap.size a b c := heap_alloc_new w _
theorem Bk.gr (h : Bk w g a b c) (G : Gr w w') : Bk w' g a b c := (G.block g h.lt).trans h
theorem Bk.cells (h : Bk w g a b c) : w.cell? ⟨g, 0, none⟩ = some (.float .f64 a) ∧ w.cell? ⟨g, 1, none⟩ = some (.float .f64 b) ∧ w.cell? ⟨g, 2, none⟩ = some (.float .f64 c) :=
  ⟨by rw [cell_of_row w g 0 _ _ (0, 0) h]; rfl, by rw [cell_of_row w g 1 _ _ (0, 0) h]; rfl, by rw [cell_of_row w g 2 _ _ (0, 0) h]; rfl⟩
theorem Bk.frozen (h : Bk w g a b c) (i : Nat) : w.frozen? ⟨g, i, none⟩ = false := by
  unfold Bk at h
  simp [World.frozen?, h]
theorem Bk.drN (h : Bk w g a b c) (n : Nat) : Bk (w.drewN n) g a b c := h
theorem Bk.set2 (h : Bk w g a b c) (x : Nat) : Bk (w.setCell ⟨g, 2, none⟩ (.float .f64 x)) g a b x := by
  unfold Bk at h ⊢
  simp [World.setCell, Array.getElem?_modify, h]
theorem Bk.far (h : Bk w g a b c) {p : Addr} (hp : g ≠ p.block) (u : Value) : Bk (w.setCell p u) g a b c := (Below.heap_setCell w p u g hp).trans h
end
section
variable {A : Option Addr} {n c : Nat} {l : List Nat} {w : World}
/-- What the document's All tells. -/
def GotRA (w : World) (n : Nat) (l : List Nat) (e : Ending) (w' : World) : Prop :=
  ∃ mn mx S, e = .returned (.agg #[.float .f64 mn, .float .f64 mx, .float .f64 S]) ∧ F64 mn ∧ F64 mx ∧ F64 S ∧ key mn = mink l (n - 1) ∧ key mx = maxk l (n - 1) ∧ cn S = csum l (n - 1) ∧ Gr w w'
set_option maxHeartbeats 1000000 in
set_option maxRecDepth 100000 in
theorem rAll_ok (hm : FMem w A n l) (h0 : 0 < n) (hc : n ≤ c) (hn : n ≤ 60) : Calls Try.prog 21 #[.slice A n c] w (GotRA w n l) := by
  have k1 := fun w1 (g : Gr w w1) => Lib.hid (rSort_ok (c := c) (hm.gr g) hc hn)
  have HM := Lib.hid hm
  obtain ⟨b, off, rfl, hbl, f0, c0⟩ := mem_at hm h0
  rw [Nat.add_zero] at c0
  clear hm
  have stf := run_store_float
  go_enter Try.func21, Try.ntmps21
  go_wp2_with fail
  refine (k1 _ ((Gr.refl w).al _)).out.mono ?_
  rintro e w1 ⟨B, q, s, rfl, ms, ps, ss, hq1, hq2, G1⟩
  have BR := (Bk.new w 0 0 0).gr G1
  have G := ((Gr.refl w).al _).trans G1
  obtain ⟨bs, os, rfl, hbs, fs0, cs0⟩ := mem_at ms h0
  obtain ⟨j, hj⟩ : ∃ j, j = n - 1 := ⟨_, rfl⟩
  obtain ⟨bs', os', hbe, _, fs1, cs1⟩ := mem_at ms (i := j) (by omega)
  cases hbe
  rw [Nat.add_zero] at cs0
  replace c0 := (G.cell (p := ⟨b, off, none⟩) hbl).trans c0
  have hb1 : b < w1.heap.size := Nat.lt_of_lt_of_le hbl G.size
  have z0 : (0 : Int) < (n : Int) := by omega
  have ea : ((n : Int) - 1).toNat = j := by omega
  have pa : (0 : Int) ≤ (n : Int) - 1 := by omega
  have ba : (n : Int) - 1 < (n : Int) := by omega
  have ra : IntKind.i64.wrap ((n : Int) - 1) = (n : Int) - 1 := by rw [IntKind.wrap_i64]; omega
  have E1 := ends_is ps ss ms.len h0
  have HE1 := Lib.hid (show key (Go.Proofs.Ythldaebinchpdaa.G s 0) = mink l (n - 1) from E1.1.symm)
  have HE2 := Lib.hid (show key (Go.Proofs.Ythldaebinchpdaa.G s j) = maxk l (n - 1) by rw [hj]; exact E1.2.symm)
  have HS1 := Lib.hid (show csum l 0 = cn (Go.Proofs.Ythldaebinchpdaa.G l 0) from rfl)
  have HJ := Lib.hid hj
  have HBR := Lib.hid BR
  have HG := Lib.hid G
  clear E1 ms ps ss hj BR G1 G
  generalize Go.Proofs.Ythldaebinchpdaa.G s 0 = y0 at *
  generalize Go.Proofs.Ythldaebinchpdaa.G s j = y1 at *
  generalize Go.Proofs.Ythldaebinchpdaa.G l 0 = x0 at *
  go_wp2_with fail
  go_big_region
  generalize hW2 : World.drew (w1.alloc (.cells #[.float .f64 y0, .float .f64 y1, .float .f64 x0] 26)) = W2
  have g2 : Gr w1 W2 := by rw [← hW2]; exact ((Gr.refl w1).al _).dr
  have X : Bk W2 w1.heap.size y0 y1 x0 := by rw [← hW2]; exact Bk.new w1 _ _ _
  have hlR := HBR.out.lt
  have hRne : w.heap.size ≠ w1.heap.size := by omega
  have hRle : w.heap.size ≤ w1.heap.size := HG.out.size
  replace HBR := Lib.hid (HBR.out.gr g2)
  replace HG := Lib.hid (HG.out.trans g2)
  have HX := Lib.hid X
  clear hW2 g2 X c0 cs0 cs1 ea ra hbs hb1
  by_cases hc1 : c = 1
  · obtain rfl : n = 1 := by omega
    subst hc1
    go_wp2_with fail
    go_loop [25] (fun i => i = .int .i64 0) (fun i => 0)
    case atStart => exact rfl
    case round =>
      obtain rfl := hrel
      obtain ⟨q0, q1, q2⟩ := HX.out.cells
      obtain ⟨r0, r1, r2⟩ := HBR.out.cells
      have fr0 := HBR.out.frozen 0
      have fr1 := HBR.out.frozen 1
      have fr2 := HBR.out.frozen 2
      go_wp2_with fail
      refine bodyPost_ret (v := .agg #[.float .f64 y0, .float .f64 y1, .float .f64 x0]) (by simp [results, Try.results21, go_sem, r0, r1, r2]) rfl ⟨y0, y1, x0, rfl, fs0, fs1, f0, HE1.out, HE2.out, HS1.out.symm, ?_⟩
      exact ((HG.out.st (Nat.le_refl _) _).st (Nat.le_refl _) _).st (Nat.le_refl _) _
  · have hcn : ¬ c < 1 := by omega
    go_wp2_with fail
    go_loopw [25] (fun i wr => ∃ (k S : Nat), i = .int .i64 (k : Int) ∧ k ≤ n - 1 ∧ F64 S ∧ Hid (cn S = csum l k) ∧ Hid (Bk wr w1.heap.size y0 y1 S) ∧ Hid (Bk wr w.heap.size 0 0 0) ∧ Hid (Gr w wr)) (fun i _ => n - (intOf i).toNat)
    case atStart => exact ⟨0, x0, rfl, Nat.zero_le _, f0, Lib.hid HS1.out.symm, HX, HBR, HG⟩
    case round =>
      clear HX HBR HG
      obtain ⟨k, S, rfl, hk, fS, HS, HX, HBR, HG⟩ := hrel
      by_cases hlt : k < n - 1
      · obtain ⟨b', off', hb', _, fy, cy⟩ := mem_at (HM.out.gr HG.out) (show k + 1 < n by omega)
        cases hb'
        have c1 : wr.cell? ⟨b, off + 1 + k, none⟩ = some (.float .f64 (Go.Proofs.Ythldaebinchpdaa.G l (k + 1))) := by rw [← cy]; congr 2; omega
        obtain ⟨r, q, hrun, hr, hcr⟩ := add_ex fS fy 22 wr
        have HS' : Hid (cn r = csum l (k + 1)) := Lib.hid (by
          show cn r = cadd (csum l k) (l.getD (k + 1) 0)
          rw [hcr, ← HS.out, cadd_cn]; rfl)
        obtain ⟨q0, q1, q2⟩ := HX.out.cells
        have fr2 := HX.out.frozen 2
        have HX2 := Lib.hid ((HX.out.drN q).set2 r)
        have HBR2 := Lib.hid ((HBR.out.drN q).far (p := ⟨w1.heap.size, 2, none⟩) hRne (.float .f64 r))
        have HG2 := Lib.hid ((HG.out.drN q).st (p := ⟨w1.heap.size, 2, none⟩) hRle (.float .f64 r))
        clear cy hcr HS q0 q1
        generalize Go.Proofs.Ythldaebinchpdaa.G l (k + 1) = y at *
        go_wp2_with fail
        go_roundw
        case rel => exact ⟨k + 1, r, by go_num, by omega, hr, HS', HX2, HBR2, HG2⟩
        case measure => simp [intOf]; omega
      · obtain rfl : k = n - 1 := by omega
        obtain ⟨q0, q1, q2⟩ := HX.out.cells
        obtain ⟨r0, r1, r2⟩ := HBR.out.cells
        have fr0 := HBR.out.frozen 0
        have fr1 := HBR.out.frozen 1
        have fr2 := HBR.out.frozen 2
        go_wp2_with fail
        refine bodyPost_ret (v := .agg #[.float .f64 y0, .float .f64 y1, .float .f64 S]) (by simp [results, Try.results21, go_sem, r0, r1, r2]) rfl ⟨y0, y1, S, rfl, fs0, fs1, fS, HE1.out, HE2.out, HS.out, ?_⟩
        exact ((HG.out.st (Nat.le_refl _) _).st (Nat.le_refl _) _).st (Nat.le_refl _) _
end
end Go.Proofs.Ythldaebinchpdaa
