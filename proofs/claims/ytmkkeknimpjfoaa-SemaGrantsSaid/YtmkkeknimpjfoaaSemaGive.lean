/-
  Package sema: what a grant makes of a spot.
-/
import Derived.Test.YtmkkeknimpjfoaaSema
namespace Go.Proofs.Ytmkkeknimpjfoaa
open Go.ChangeShapes Go.WideShapes Go.ChangeAt Go.RowKit
set_option maxRecDepth 100000
set_option linter.unusedVariables false
set_option linter.unusedSimpArgs false

/-- What giving makes of what an address has. -/
def GiveR (a q : Int) (l : List Int) (s : Int × Int × List Int) (x e : Int) : Prop :=
  (∃ r, l = x :: r ∧ s = (a, q, r) ∧ e = 0) ∨ (l = [] ∧ q = 2147483647 ∧ s = (0, 0, []) ∧ x = 0 ∧ e = 10) ∨ (l = [] ∧ q < 2147483647 ∧ s = (a, q + 1, []) ∧ x = -1 ∧ e = 0)
section
variable {w : World} {a q : Int} {A : Option Addr} {n c : Nat} {l : List Int}
set_option maxHeartbeats 4000000 in
theorem granted_is (ha : B64 a) (hq0 : 0 ≤ q) (hq1 : q ≤ 2147483647) (hm : IMem w A n l) (hnc : n ≤ c) (hcm : c ≤ 9223372036854775807) (hl : L7.Ln l)
    {s : Int × Int × List Int} {x e : Int} (h : GiveR a q l s x e) :
    Calls Try.prog 25 #[.agg #[.int .i64 a, .int .i64 q, .slice A n c]] w (Told A n s x e w) := by
  have g0 := ((Gr.refl w).al (.cells #[.int .i64 a, .int .i64 q, .slice A n c] 46)).al (.cells #[.int .i64 0, .int .i64 0, .slice none 0 0] 46)
  have B0 := (Blk.new w #[.int .i64 a, .int .i64 q, .slice A n c] 46).al (.cells #[.int .i64 0, .int .i64 0, .slice none 0 0] 46)
  have B1 := Blk.new (w.alloc (.cells #[.int .i64 a, .int .i64 q, .slice A n c] 46)) #[.int .i64 0, .int .i64 0, .slice none 0 0] 46
  simp only [World.size_alloc] at B1
  have HN : Hid (n ≤ 9223372036854775807) := Lib.hid (Nat.le_trans hnc hcm)
  have HCM := Lib.hid hcm
  have HA := Lib.hid ha
  have HQ : Hid (B64 q) := Lib.hid ⟨by omega, by omega⟩
  have HM := Lib.hid hm
  have hlen := hm.1
  have b01 : w.heap.size ≠ w.heap.size + 1 := by omega
  have hge : w.heap.size ≤ w.heap.size + 1 := Nat.le_succ _
  rcases h with ⟨r, rfl, rfl, rfl⟩ | ⟨rfl, rfl, rfl, rfl, rfl⟩ | ⟨rfl, h1, rfl, rfl, rfl⟩
  · have KP := Lib.hid (L7.Pop_is (c := c) (hm.gr g0) hnc HN.out (.inr (.inr ⟨hl, rfl, rfl⟩)))
    have hn0 : (0 : Int) < (n : Int) := by simp at hlen; omega
    have HB0 := Lib.hid B0
    have HB1 := Lib.hid B1
    have G0 := Lib.hid g0
    have p2 := (B0.at_ (k := 2) rfl).1
    have s0 : w.heap.size < ((w.alloc (.cells #[.int .i64 a, .int .i64 q, .slice A n c] 46)).alloc (.cells #[.int .i64 0, .int .i64 0, .slice none 0 0] 46)).heap.size := by simp; omega
    have s1 : w.heap.size + 1 < ((w.alloc (.cells #[.int .i64 a, .int .i64 q, .slice A n c] 46)).alloc (.cells #[.int .i64 0, .int .i64 0, .slice none 0 0] 46)).heap.size := by simp
    have HS0 := Lib.hid s0
    have HS1 := Lib.hid s1
    clear hm hnc hcm ha hl B0 B1 g0 hlen s0 s1
    go_enter Try.func25, Try.ntmps25
    go_wp2_with fail
    with_reducible refine KP.out.mono ?_
    rintro ee w1 ⟨C, k, rfl, own1, h1⟩
    have D0 := HB0.out.gr h1
    have D1 := HB1.out.gr h1
    have G1 := Lib.hid (G0.out.trans h1)
    have s0 := HS0.out
    have s1 := HS1.out
    obtain ⟨p0, y0⟩ := D0.at_ (k := 0) rfl
    obtain ⟨p1, y1⟩ := D0.at_ (k := 1) rfl
    obtain ⟨p2', y2⟩ := D0.at_ (k := 2) rfl
    obtain ⟨q0, z0⟩ := D1.at_ (k := 0) rfl
    obtain ⟨q1, z1⟩ := D1.at_ (k := 1) rfl
    obtain ⟨q2, z2⟩ := D1.at_ (k := 2) rfl
    have hlt1 := D1.lt
    have DX1 : Blk (w1.setCell ⟨w.heap.size, 2, none⟩ (.slice C r.length k)) (w.heap.size + 1) #[.int .i64 0, .int .i64 0, .slice none 0 0] 46 := D1.st b01 _
    have HF := Lib.hid (spot_stored DX1 rfl (.int .i64 a) (.int .i64 q) (.slice C r.length k))
    have HG := Lib.hid ((((G1.out.st (p := ⟨w.heap.size, 2, none⟩) (Nat.le_refl _) (.slice C r.length k)).st (p := ⟨w.heap.size + 1, 0, none⟩) hge (.int .i64 a)).st (p := ⟨w.heap.size + 1, 1, none⟩) hge (.int .i64 q)).st (p := ⟨w.heap.size + 1, 2, none⟩) hge (.slice C r.length k))
    have HO := Lib.hid ((((own1.st (p := ⟨w.heap.size, 2, none⟩) s0 (.slice C r.length k)).st (p := ⟨w.heap.size + 1, 0, none⟩) s1 (.int .i64 a)).st (p := ⟨w.heap.size + 1, 1, none⟩) s1 (.int .i64 q)).st (p := ⟨w.heap.size + 1, 2, none⟩) s1 (.slice C r.length k))
    clear own1 h1 D0 D1 DX1 p2 KP hge s0 s1 G1
    go_wp2_with fail
    have F := HF.out
    have GF := HG.out
    have OF := HO.out
    clear q0 z0 q1 z1 q2 z2 p0 p1 p2' y0 y1 y2 HF HG HO
    generalize (((w1.setCell _ _).setCell _ _).setCell _ _).setCell _ _ = WF at F GF OF ⊢
    have q0 : WF.cell? ⟨w.heap.size + 1, 0, none⟩ = some (.int .i64 a) := (F.at_ (k := 0) rfl).1
    have q1 : WF.cell? ⟨w.heap.size + 1, 1, none⟩ = some (.int .i64 q) := (F.at_ (k := 1) rfl).1
    have q2 : WF.cell? ⟨w.heap.size + 1, 2, none⟩ = some (.slice C r.length k) := (F.at_ (k := 2) rfl).1
    exact bodyPost_ret (v := .tuple #[.agg #[.int .i64 a, .int .i64 q, .slice C r.length k], .int .i64 x, .int .i64 0]) (by simp [results, Try.results25, go_sem, q0, q1, q2]) rfl
      ⟨⟨a, q, C, r.length, k, r⟩, rfl, ⟨HA.out, HQ.out, OF.mem, OF.le, by have := OF.max; unfold maxLen at this; exact this⟩, rfl, GF, .inr (fun k hk => Nat.le_trans (by simp only [World.size_alloc]; omega) (OF.lt k hk).1)⟩
  · obtain rfl : n = 0 := by simpa using hlen.symm
    obtain ⟨q0, z0⟩ := B1.at_ (k := 0) rfl
    obtain ⟨q1, z1⟩ := B1.at_ (k := 1) rfl
    obtain ⟨q2, z2⟩ := B1.at_ (k := 2) rfl
    obtain ⟨p1, y1⟩ := B0.at_ (k := 1) rfl
    obtain ⟨p2, y2⟩ := B0.at_ (k := 2) rfl
    clear hm hnc hcm ha hl B0 B1 g0 hlen hq0 hq1
    go_enter Try.func25, Try.ntmps25
    go_wp2_with fail
    exact bodyPost_ret (v := .tuple #[.agg #[.int .i64 0, .int .i64 0, .slice none 0 0], .int .i64 0, .int .i64 10]) (by simp [results, Try.results25, go_sem]) rfl
      ⟨⟨0, 0, none, 0, 0, []⟩, rfl, ok_zero _ b64_zero, rfl, ((Gr.refl w).al _).al _, .inr (fun _ h => by cases h)⟩
  · obtain rfl : n = 0 := by simpa using hlen.symm
    have ne : (q == 2147483647) = false := beq_eq_false_iff_ne.2 (by omega)
    have hw1 : wrap64 (q + 1) = q + 1 := by unfold wrap64; omega
    have HQ1 : Hid (B64 (q + 1)) := Lib.hid ⟨by omega, by omega⟩
    have HW1 := Lib.hid hw1
    clear hm hnc hcm ha hl B0 B1 g0 hlen hq0 hq1 h1 hw1
    go_enter Try.func25, Try.ntmps25
    go_wp2_with fail
    rw [HW1.out]
    exact bodyPost_ret (v := .tuple #[.agg #[.int .i64 a, .int .i64 (q + 1), .slice A 0 c], .int .i64 (-1), .int .i64 0]) (by simp [results, Try.results25, go_sem]) rfl
      ⟨⟨a, q + 1, A, 0, c, []⟩, rfl, ⟨HA.out, HQ1.out, EMem.nil_, Nat.zero_le _, HCM.out⟩, rfl, ((Gr.refl w).al _).al _, .inl ⟨rfl, rfl⟩⟩
end
end Go.Proofs.Ytmkkeknimpjfoaa
