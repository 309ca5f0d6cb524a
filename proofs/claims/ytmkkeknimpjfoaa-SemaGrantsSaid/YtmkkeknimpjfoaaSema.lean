/-
  Package sema: what the two closures make of a spot.
-/
import Derived.Test.YtmkkeknimpjfoaaSemaMath
import Derived.Test.YtmkkeknimpjfoaaRootCut
namespace Go.Proofs.Ytmkkeknimpjfoaa
open Go.ChangeShapes Go.WideShapes Go.ChangeAt Go.RowKit
set_option maxRecDepth 100000
set_option linter.unusedVariables false
set_option linter.unusedSimpArgs false

/-- What a change of a spot tells: a spot that reads so, whose line is the old one or a new one; who is let through; an error. -/
def Told (A : Option Addr) (n : Nat) (s : Int × Int × List Int) (x e : Int) (W : World) (ee : Ending) (W' : World) : Prop :=
  ∃ z : SV, ee = .returned (.tuple #[.agg #[.int .i64 z.addr, .int .i64 z.cnt, .slice z.A z.n z.c], .int .i64 x, .int .i64 e]) ∧ z.ok W' ∧ z.pl = s ∧ Gr W W' ∧ ((z.A = A ∧ z.n = n) ∨ ∀ k, z.A.map (·.block) = some k → W.heap.size ≤ k)
/-- What asking makes of what an address has. -/
def ComeR (a q : Int) (l : List Int) (who : Int) (first : Bool) (s : Int × Int × List Int) (x e : Int) : Prop :=
  (e ≠ 0 ∧ L7.PushR l who first [] e ∧ s = (0, 0, []) ∧ x = 0) ∨ (0 < q ∧ (∃ r, L7.PushR l who first r 0) ∧ s = (a, q - 1, l) ∧ x = who ∧ e = 0) ∨ (¬ 0 < q ∧ (∃ r, L7.PushR l who first r 0 ∧ s = (a, q, r)) ∧ x = -1 ∧ e = 0)
section
variable {w : World} {a q : Int} {A : Option Addr} {n c : Nat} {l : List Int} {b1 b2 : Nat} {who : Int} {first : Bool}
set_option maxHeartbeats 4000000 in
theorem coming1_is (ha : B64 a) (hq : B64 q) (hm : IMem w A n l) (hnc : n ≤ c) (hcm : c ≤ 9223372036854775807) (hw : B64 who)
    (c1 : w.cell? ⟨b1, 0, none⟩ = some (.int .i64 who)) (c2 : w.cell? ⟨b2, 0, none⟩ = some (.bool first)) (l1 : b1 < w.heap.size) (l2 : b2 < w.heap.size)
    {s : Int × Int × List Int} {x e : Int} (h : ComeR a q l who first s x e) :
    Calls Try.prog 36 #[.agg #[.int .i64 a, .int .i64 q, .slice A n c], .pointer (some ⟨b1, 0, none⟩), .pointer (some ⟨b2, 0, none⟩)] w (Told A n s x e w) := by
  have g0 := ((Gr.refl w).al (.cells #[.int .i64 a, .int .i64 q, .slice A n c] 46)).al (.cells #[.int .i64 0, .int .i64 0, .slice none 0 0] 46)
  have B0 := (Blk.new w #[.int .i64 a, .int .i64 q, .slice A n c] 46).al (.cells #[.int .i64 0, .int .i64 0, .slice none 0 0] 46)
  have B1 := Blk.new (w.alloc (.cells #[.int .i64 a, .int .i64 q, .slice A n c] 46)) #[.int .i64 0, .int .i64 0, .slice none 0 0] 46
  simp only [World.size_alloc] at B1
  have e1 : ((w.alloc (.cells #[.int .i64 a, .int .i64 q, .slice A n c] 46)).alloc (.cells #[.int .i64 0, .int .i64 0, .slice none 0 0] 46)).cell? ⟨b1, 0, none⟩ = some (.int .i64 who) := (g0.cell (p := ⟨b1, 0, none⟩) l1).trans c1
  have e2 : ((w.alloc (.cells #[.int .i64 a, .int .i64 q, .slice A n c] 46)).alloc (.cells #[.int .i64 0, .int .i64 0, .slice none 0 0] 46)).cell? ⟨b2, 0, none⟩ = some (.bool first) := (g0.cell (p := ⟨b2, 0, none⟩) l2).trans c2
  have HN : Hid (n ≤ 9223372036854775807) := Lib.hid (Nat.le_trans hnc hcm)
  have HNC := Lib.hid hnc
  have HCM := Lib.hid hcm
  have HA := Lib.hid ha
  have HQ := Lib.hid hq
  have HM := Lib.hid hm
  have HW := Lib.hid hw
  have C1 := Lib.hid c1
  have L1 := Lib.hid l1
  rcases h with ⟨he, hp, rfl, rfl⟩ | ⟨h0, ⟨r, hp⟩, rfl, rfl, rfl⟩ | ⟨h0, ⟨r, hp, rfl⟩, rfl, rfl⟩
  · have KP := Lib.hid (L7.Push_is (c := c) (hm.gr g0) hnc HN.out hw hp)
    have ne : (e == 0) = false := beq_eq_false_iff_ne.2 he
    have nb : (e != 0) = true := by simp [bne, ne]
    have HB0 := Lib.hid B0
    have HB1 := Lib.hid B1
    have G0 := Lib.hid g0
    have p2 := (B0.at_ (k := 2) rfl).1
    clear hp hm hnc hcm ha hq hw c1 c2 l1 l2 B0 B1 g0 he
    go_enter Try.func36, Try.ntmps36
    go_wp2_with fail
    with_reducible refine KP.out.mono ?_
    rintro ee w1 ⟨C, k, rfl, own1, h1⟩
    have D1 := HB1.out.gr h1
    have G1 := Lib.hid (G0.out.trans h1)
    obtain ⟨q0, z0⟩ := D1.at_ (k := 0) rfl
    obtain ⟨q1, z1⟩ := D1.at_ (k := 1) rfl
    obtain ⟨q2, z2⟩ := D1.at_ (k := 2) rfl
    have HF := Lib.hid (spot_stored D1 rfl (.int .i64 0) (.int .i64 0) (.slice none 0 0))
    have hge : w.heap.size ≤ w.heap.size + 1 := Nat.le_succ _
    have HG := Lib.hid (((G1.out.st (p := ⟨w.heap.size + 1, 0, none⟩) hge (.int .i64 0)).st (p := ⟨w.heap.size + 1, 1, none⟩) hge (.int .i64 0)).st (p := ⟨w.heap.size + 1, 2, none⟩) hge (.slice none 0 0))
    clear own1 h1 D1 p2 e1 e2 KP hge
    go_wp2_with fail
    have F := HF.out
    have GF := HG.out
    clear q0 z0 q1 z1 q2 z2 HF HG
    generalize ((w1.setCell _ _).setCell _ _).setCell _ _ = WF at F GF ⊢
    have q0 : WF.cell? ⟨w.heap.size + 1, 0, none⟩ = some (.int .i64 0) := (F.at_ (k := 0) rfl).1
    have q1 : WF.cell? ⟨w.heap.size + 1, 1, none⟩ = some (.int .i64 0) := (F.at_ (k := 1) rfl).1
    have q2 : WF.cell? ⟨w.heap.size + 1, 2, none⟩ = some (.slice none 0 0) := (F.at_ (k := 2) rfl).1
    exact bodyPost_ret (v := .tuple #[.agg #[.int .i64 0, .int .i64 0, .slice none 0 0], .int .i64 0, .int .i64 e]) (by simp [results, Try.results36, go_sem, q0, q1, q2]) rfl
      ⟨⟨0, 0, none, 0, 0, []⟩, rfl, ok_zero _ b64_zero, rfl, GF, .inr (fun _ h => by cases h)⟩
  · have KP := Lib.hid (L7.Push_is (c := c) (hm.gr g0) hnc HN.out hw hp)
    have HB0 := Lib.hid B0
    have HB1 := Lib.hid B1
    have G0 := Lib.hid g0
    have p2 := (B0.at_ (k := 2) rfl).1
    have hw1 : wrap64 (q - 1) = q - 1 := by have := hq.2; unfold wrap64; omega
    have HQ1 : Hid (B64 (q - 1)) := Lib.hid ⟨by omega, by have := hq.2; omega⟩
    clear hp hm hnc hcm ha hq hw c1 c2 l1 l2 B0 B1 g0
    go_enter Try.func36, Try.ntmps36
    go_wp2_with fail
    with_reducible refine KP.out.mono ?_
    rintro ee w1 ⟨C, k, rfl, own1, h1⟩
    have D0 := HB0.out.gr h1
    have D1 := HB1.out.gr h1
    have G1 := Lib.hid (G0.out.trans h1)
    obtain ⟨p1, y1⟩ := D0.at_ (k := 1) rfl
    have HD0 := Lib.hid D0
    have HD1 := Lib.hid D1
    have HW1 := Lib.hid hw1
    clear own1 h1 D0 D1 p2 e1 e2 KP hw1
    go_wp2_with fail
    rw [HW1.out]
    have DX0 : Blk (w1.setCell ⟨w.heap.size, 1, none⟩ (.int .i64 (q - 1))) w.heap.size #[.int .i64 a, .int .i64 (q - 1), .slice A n c] 46 := by simpa using HD0.out.set 1 (.int .i64 (q - 1))
    have DX1 : Blk (w1.setCell ⟨w.heap.size, 1, none⟩ (.int .i64 (q - 1))) (w.heap.size + 1) #[.int .i64 0, .int .i64 0, .slice none 0 0] 46 := HD1.out.st (by show w.heap.size ≠ w.heap.size + 1; omega) _
    have GX : Gr w (w1.setCell ⟨w.heap.size, 1, none⟩ (.int .i64 (q - 1))) := G1.out.st (p := ⟨w.heap.size, 1, none⟩) (Nat.le_refl _) _
    clear p1 y1 HD0 HD1 G1
    generalize w1.setCell ⟨w.heap.size, 1, none⟩ (.int .i64 (q - 1)) = X at *
    have r1 : X.cell? ⟨b1, 0, none⟩ = some (.int .i64 x) := (GX.cell (p := ⟨b1, 0, none⟩) L1.out).trans C1.out
    have p0 : X.cell? ⟨w.heap.size, 0, none⟩ = some (.int .i64 a) := (DX0.at_ (k := 0) rfl).1
    have p1 : X.cell? ⟨w.heap.size, 1, none⟩ = some (.int .i64 (q - 1)) := (DX0.at_ (k := 1) rfl).1
    have p2 : X.cell? ⟨w.heap.size, 2, none⟩ = some (.slice A n c) := (DX0.at_ (k := 2) rfl).1
    obtain ⟨q0, z0⟩ := DX1.at_ (k := 0) rfl
    obtain ⟨q1, z1⟩ := DX1.at_ (k := 1) rfl
    obtain ⟨q2, z2⟩ := DX1.at_ (k := 2) rfl
    have hge : w.heap.size ≤ w.heap.size + 1 := Nat.le_succ _
    have hne1 : b1 ≠ w.heap.size + 1 := by have := L1.out; omega
    have hlt : w.heap.size + 1 < X.heap.size := DX1.lt
    have HF := Lib.hid ((spot_stored DX1 rfl (.int .i64 a) (.int .i64 (q - 1)) (.slice A n c)).gr (Gr.refl _).dr)
    have HG := Lib.hid ((((GX.st (p := ⟨w.heap.size + 1, 0, none⟩) hge (.int .i64 a)).st (p := ⟨w.heap.size + 1, 1, none⟩) hge (.int .i64 (q - 1))).st (p := ⟨w.heap.size + 1, 2, none⟩) hge (.slice A n c)).dr)
    clear DX0 DX1 GX hge
    go_region
    go_wp2_with fail
    have F := HF.out
    have GF := HG.out
    clear q0 z0 q1 z1 q2 z2 p0 p1 p2 r1 HF HG
    generalize (((X.setCell _ _).setCell _ _).setCell _ _).drew = WF at F GF ⊢
    have q0 : WF.cell? ⟨w.heap.size + 1, 0, none⟩ = some (.int .i64 a) := (F.at_ (k := 0) rfl).1
    have q1 : WF.cell? ⟨w.heap.size + 1, 1, none⟩ = some (.int .i64 (q - 1)) := (F.at_ (k := 1) rfl).1
    have q2 : WF.cell? ⟨w.heap.size + 1, 2, none⟩ = some (.slice A n c) := (F.at_ (k := 2) rfl).1
    exact bodyPost_ret (v := .tuple #[.agg #[.int .i64 a, .int .i64 (q - 1), .slice A n c], .int .i64 x, .int .i64 0]) (by simp [results, Try.results36, go_sem, q0, q1, q2]) rfl
      ⟨⟨a, q - 1, A, n, c, l⟩, rfl, ⟨HA.out, HQ1.out, HM.out.gr GF, HNC.out, HCM.out⟩, rfl, GF, .inl ⟨rfl, rfl⟩⟩
  · have KP := Lib.hid (L7.Push_is (c := c) (hm.gr g0) hnc HN.out hw hp)
    have HB0 := Lib.hid B0
    have HB1 := Lib.hid B1
    have G0 := Lib.hid g0
    have p2 := (B0.at_ (k := 2) rfl).1
    clear hp hm hnc hcm ha hq hw c1 c2 l1 l2 B0 B1 g0
    go_enter Try.func36, Try.ntmps36
    go_wp2_with fail
    with_reducible refine KP.out.mono ?_
    rintro ee w1 ⟨C, k, rfl, own1, h1⟩
    have D0 := HB0.out.gr h1
    have D1 := HB1.out.gr h1
    have G1 := Lib.hid (G0.out.trans h1)
    have b01 : w.heap.size ≠ w.heap.size + 1 := by omega
    have hge : w.heap.size ≤ w.heap.size + 1 := Nat.le_succ _
    have s0 : w.heap.size < ((w.alloc (.cells #[.int .i64 a, .int .i64 q, .slice A n c] 46)).alloc (.cells #[.int .i64 0, .int .i64 0, .slice none 0 0] 46)).heap.size := by simp; omega
    have s1 : w.heap.size + 1 < ((w.alloc (.cells #[.int .i64 a, .int .i64 q, .slice A n c] 46)).alloc (.cells #[.int .i64 0, .int .i64 0, .slice none 0 0] 46)).heap.size := by simp
    obtain ⟨p0, y0⟩ := D0.at_ (k := 0) rfl
    obtain ⟨p1, y1⟩ := D0.at_ (k := 1) rfl
    obtain ⟨p2', y2⟩ := D0.at_ (k := 2) rfl
    obtain ⟨q0, z0⟩ := D1.at_ (k := 0) rfl
    obtain ⟨q1, z1⟩ := D1.at_ (k := 1) rfl
    obtain ⟨q2, z2⟩ := D1.at_ (k := 2) rfl
    have hlt1 := D1.lt
    have DX1 : Blk (w1.setCell ⟨w.heap.size, 2, none⟩ (.slice C r.length k)) (w.heap.size + 1) #[.int .i64 0, .int .i64 0, .slice none 0 0] 46 := D1.st b01 _
    have HF := Lib.hid (spot_stored DX1 rfl (.int .i64 a) (.int .i64 q) (.slice C r.length k))
    have HG := Lib.hid ((((G1.out.st (p := ⟨w.heap.size, 2, none⟩) (Nat.le_refl _) (.slice C r.length k)).st (p := ⟨w.heap.size + 1, 0, none⟩) hge (.int .i64 a)).st (p := ⟨w.heap.size + 1, 1, none⟩) hge (.int .i64 q)).st (p := ⟨w.heap.size + 1, 2, none⟩) hge (.slice C r.length k))
    have HO := Lib.hid ((((own1.st (p := ⟨w.heap.size, 2, none⟩) s0 (.slice C r.length k)).st (p := ⟨w.heap.size + 1, 0, none⟩) s1 (.int .i64 a)).st (p := ⟨w.heap.size + 1, 1, none⟩) s1 (.int .i64 q)).st (p := ⟨w.heap.size + 1, 2, none⟩) s1 (.slice C r.length k))
    clear own1 h1 D0 D1 DX1 p2 e1 e2 KP hge s0 s1 G1
    go_wp2_with fail
    have F := HF.out
    have GF := HG.out
    have OF := HO.out
    clear q0 z0 q1 z1 q2 z2 p0 p1 p2' y0 y1 y2 HF HG HO
    generalize (((w1.setCell _ _).setCell _ _).setCell _ _).setCell _ _ = WF at F GF OF ⊢
    have q0 : WF.cell? ⟨w.heap.size + 1, 0, none⟩ = some (.int .i64 a) := (F.at_ (k := 0) rfl).1
    have q1 : WF.cell? ⟨w.heap.size + 1, 1, none⟩ = some (.int .i64 q) := (F.at_ (k := 1) rfl).1
    have q2 : WF.cell? ⟨w.heap.size + 1, 2, none⟩ = some (.slice C r.length k) := (F.at_ (k := 2) rfl).1
    exact bodyPost_ret (v := .tuple #[.agg #[.int .i64 a, .int .i64 q, .slice C r.length k], .int .i64 (-1), .int .i64 0]) (by simp [results, Try.results36, go_sem, q0, q1, q2]) rfl
      ⟨⟨a, q, C, r.length, k, r⟩, rfl, ⟨HA.out, HQ.out, OF.mem, OF.le, by have := OF.max; unfold maxLen at this; exact this⟩, rfl, GF, .inr (fun k hk => Nat.le_trans (by simp only [World.size_alloc]; omega) (OF.lt k hk).1)⟩
end
end Go.Proofs.Ytmkkeknimpjfoaa
