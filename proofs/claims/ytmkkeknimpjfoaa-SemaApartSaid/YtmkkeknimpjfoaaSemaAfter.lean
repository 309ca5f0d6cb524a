/-
  Package sema: after: a table with an address's spot changed, whatever the closure, by what it tells.
-/
import Derived.Test.YtmkkeknimpjfoaaSemaGive
import Derived.Shelf.Abstract
namespace Go.Proofs.Ytmkkeknimpjfoaa
open Go.ChangeShapes Go.WideShapes Go.ChangeAt Go.RowKit Go.Shelf
set_option maxRecDepth 100000
set_option linter.unusedVariables false
set_option linter.unusedSimpArgs false

theorem getR_gt {L : List SV} {a : Int} (ht : Tab L) (hk : IsKey a) : GetR L a (a, (gt L a).1, (gt L a).2) 0 := by
  refine .inr ⟨hk, ht, rfl, ?_⟩
  by_cases hh : Has L a
  · obtain ⟨x, hx, rfl⟩ := hh
    exact .inl ⟨x, hx, rfl, by rw [gt_mem ht.2 hx]; rfl⟩
  · exact .inr ⟨hh, by rw [gt_no hh]⟩
/-- What comes of a change. -/
def AftR (L : List SV) (a : Int) (s : Int × Int × List Int) (x1 e1 : Int) (Q : List (Int × Int × List Int)) (x e : Int) : Prop :=
  ((¬ IsKey a ∨ ¬ Tab L) ∧ Q = [] ∧ x = 0 ∧ e = 1) ∨ (IsKey a ∧ Tab L ∧ e1 ≠ 0 ∧ Q = [] ∧ x = 0 ∧ e = e1) ∨
  (IsKey a ∧ Tab L ∧ e1 = 0 ∧ ∃ Q2 e2, SetR L (sp s.1 s.2.1 s.2.2) Q2 e2 ∧ ((e2 ≠ 0 ∧ Q = [] ∧ x = 0 ∧ e = e2) ∨ (e2 = 0 ∧ Q = Q2 ∧ x = x1 ∧ e = 0)))
/-- A table that is answered, with whom and why. -/
def Gave (Q : List (Int × Int × List Int)) (vs : Array Value) (W : World) (ee : Ending) (W' : World) : Prop :=
  ∃ B m T, ee = .returned (.tuple (#[.slice B T.length m] ++ vs)) ∧ SMem W' B T.length T ∧ T.length ≤ m ∧ m ≤ 9223372036854775807 ∧ T.map SV.pl = Q ∧ Gr W W' ∧ SOwn W' W.heap.size (.slice B T.length m) T
section
variable {w : World} {A : Option Addr} {n c : Nat} {L : List SV} {a : Int} {F : Nat} {caps : Array Value}
set_option maxHeartbeats 8000000 in
theorem after_is (eg : ∀ args w, (callFunc F args).run Try.prog w = .ok (.enter F args) w) (hm : SMem w A n L) (hnc : n ≤ c) (hcm : c ≤ 9223372036854775807) (ha : B64 a) {s : Int × Int × List Int} {x1 e1 : Int}
    (hC : Tab L → IsKey a → ∀ W (y : SV), Gr w W → y.ok W → y.pl = (a, (gt L a).1, (gt L a).2) → Calls Try.prog F (#[.agg #[.int .i64 y.addr, .int .i64 y.cnt, .slice y.A y.n y.c]] ++ caps) W (Told y.A y.n s x1 e1 W))
    {Q : List (Int × Int × List Int)} {x e : Int} (h : AftR L a s x1 e1 Q x e) :
    Calls Try.prog 23 #[.slice A n c, .int .i64 a, .func (.func F) #[] caps] w (Gave Q #[.int .i64 x, .int .i64 e] w) := by
  have HM := Lib.hid hm
  rcases h with ⟨hbad, rfl, rfl, rfl⟩ | ⟨hk, ht, he, rfl, rfl, rfl⟩ | ⟨hk, ht, rfl, Q2, e2, hS, hcase⟩
  · have KG := Lib.hid (Get_is (c := c) hm ha (.inl ⟨hbad, rfl, rfl⟩))
    clear hm hC hbad
    go_enter Try.func23, Try.ntmps23
    go_wp2_with fail
    with_reducible refine KG.out.mono ?_
    rintro ee w1 ⟨y, rfl, hy, hp, h1⟩
    have G1 := Lib.hid (h1.al (.cells #[.int .i64 y.addr, .int .i64 y.cnt, .slice y.A y.n y.c] 46))
    clear hy hp h1
    go_wp2_with fail
    go_ret3
    exact ⟨none, 0, [], rfl, SMem.nil_, Nat.le_refl _, by omega, rfl, G1.out, SOwn.nil _ _⟩
  · have KG := Lib.hid (Get_is (c := c) hm ha (getR_gt ht hk))
    have KC := Lib.hid (hC ht hk)
    have ne : (e == 0) = false := beq_eq_false_iff_ne.2 he
    have nb : (e != 0) = true := by simp [bne, ne]
    clear hm hC hk ht he
    go_enter Try.func23, Try.ntmps23
    go_wp2_with fail
    with_reducible refine KG.out.mono ?_
    rintro ee w1 ⟨y, rfl, hy, hp, h1⟩
    have G1 := Lib.hid (h1.al (.cells #[.int .i64 y.addr, .int .i64 y.cnt, .slice y.A y.n y.c] 46))
    have B1 := Lib.hid (Blk.new w1 #[.int .i64 y.addr, .int .i64 y.cnt, .slice y.A y.n y.c] 46)
    have KC1 := Lib.hid (KC.out _ y G1.out (hy.gr ((Gr.refl w1).al _)) hp)
    have hle := h1.size
    have HY : Hid (0 < y.n → ∀ k, y.A.map (·.block) = some k → k < w1.heap.size) := Lib.hid fun hn k hk => by
      obtain ⟨b, off, e, hb, _⟩ := hy.2.2.1.2.2 hn
      rw [e] at hk; cases hk; exact hb
    clear hy hp h1 KC KG
    go_wp2_with fail
    with_reducible refine KC1.out.mono ?_
    rintro ee w2 ⟨z, rfl, hz, hzp, h2, hkin⟩
    have D := B1.out.gr h2
    have G2 := G1.out.trans h2
    obtain ⟨q0, z0⟩ := D.at_ (k := 0) rfl
    obtain ⟨q1, z1⟩ := D.at_ (k := 1) rfl
    obtain ⟨q2, z2⟩ := D.at_ (k := 2) rfl
    have GF := Lib.hid (((G2.st (p := ⟨w1.heap.size, 0, none⟩) hle (.int .i64 z.addr)).st (p := ⟨w1.heap.size, 1, none⟩) hle (.int .i64 z.cnt)).st (p := ⟨w1.heap.size, 2, none⟩) hle (.slice z.A z.n z.c))
    clear D G2 h2 hz hzp hkin KC1 G1 B1 hle
    go_wp2_with fail
    go_ret3
    exact ⟨none, 0, [], rfl, SMem.nil_, Nat.le_refl _, by omega, rfl, GF.out, SOwn.nil _ _⟩
  · have KG := Lib.hid (Get_is (c := c) hm ha (getR_gt ht hk))
    have KC := Lib.hid (hC ht hk)
    have HS := Lib.hid hS
    have HNC := Lib.hid hnc
    have HCM := Lib.hid hcm
    clear hm hC hk ht hS
    go_enter Try.func23, Try.ntmps23
    go_wp2_with fail
    with_reducible refine KG.out.mono ?_
    rintro ee w1 ⟨y, rfl, hy, hp, h1⟩
    have G1 := Lib.hid (h1.al (.cells #[.int .i64 y.addr, .int .i64 y.cnt, .slice y.A y.n y.c] 46))
    have B1 := Lib.hid (Blk.new w1 #[.int .i64 y.addr, .int .i64 y.cnt, .slice y.A y.n y.c] 46)
    have KC1 := Lib.hid (KC.out _ y G1.out (hy.gr ((Gr.refl w1).al _)) hp)
    have hle := h1.size
    have HY : Hid (0 < y.n → ∀ k, y.A.map (·.block) = some k → k < w1.heap.size) := Lib.hid fun hn k hk => by
      obtain ⟨b, off, e, hb, _⟩ := hy.2.2.1.2.2 hn
      rw [e] at hk; cases hk; exact hb
    clear hy hp h1 KC KG
    go_wp2_with fail
    with_reducible refine KC1.out.mono ?_
    rintro ee w2 ⟨z, rfl, hz, hzp, h2, hkin⟩
    have D := B1.out.gr h2
    have G2 := G1.out.trans h2
    obtain ⟨q0, z0⟩ := D.at_ (k := 0) rfl
    obtain ⟨q1, z1⟩ := D.at_ (k := 1) rfl
    obtain ⟨q2, z2⟩ := D.at_ (k := 2) rfl
    have GF := Lib.hid (((G2.st (p := ⟨w1.heap.size, 0, none⟩) hle (.int .i64 z.addr)).st (p := ⟨w1.heap.size, 1, none⟩) hle (.int .i64 z.cnt)).st (p := ⟨w1.heap.size, 2, none⟩) hle (.slice z.A z.n z.c))
    have BF := Lib.hid (spot_stored D rfl (.int .i64 z.addr) (.int .i64 z.cnt) (.slice z.A z.n z.c))
    have hne : z.n ≠ 0 → ∀ k, z.A.map (·.block) = some k → k ≠ w1.heap.size := fun hn k hk e => by
      rcases hkin with ⟨e1, e2⟩ | h
      · rw [e1] at hk
        have := HY.out (by omega) k hk
        omega
      · have := h k hk
        simp only [World.size_alloc] at this
        omega
    have himem : ∀ (W : World) (o : Nat) (u : Value), IMem W z.A z.n z.line → IMem (W.setCell ⟨w1.heap.size, o, none⟩ u) z.A z.n z.line := fun W o u hi => by
      by_cases h0 : z.n = 0
      · have hl := hz.len
        rw [h0] at hl
        rw [h0, List.eq_nil_of_length_eq_zero hl]
        exact EMem.nil_
      · exact imem_kept hi (grownBy_cell W w1.heap.size o u) fun k hk _ e => hne h0 k hk (by cases e; rfl)
    have hzi := himem _ 2 (.slice z.A z.n z.c) (himem _ 1 (.int .i64 z.cnt) (himem _ 0 (.int .i64 z.addr) hz.2.2.1))
    obtain ⟨X, hX⟩ : ∃ X, ((w2.setCell ⟨w1.heap.size, 0, none⟩ (.int .i64 z.addr)).setCell ⟨w1.heap.size, 1, none⟩ (.int .i64 z.cnt)).setCell ⟨w1.heap.size, 2, none⟩ (.slice z.A z.n z.c) = X := ⟨_, rfl⟩
    rw [hX] at GF BF hzi
    have hzX : z.ok X := ⟨hz.1, hz.2.1, hzi, hz.2.2.2⟩
    obtain ⟨r0, y0⟩ := BF.out.at_ (k := 0) rfl
    obtain ⟨r1, y1⟩ := BF.out.at_ (k := 1) rfl
    obtain ⟨r2, y2⟩ := BF.out.at_ (k := 2) rfl
    have KS := Lib.hid (Set_isO (HM.out.gr GF.out) HNC.out HCM.out hzX (setR_pl (s' := z) (by rw [sp_pl]; exact hzp.symm) HS.out))
    have HXX := Lib.hid hX
    have HSR := HS.out
    clear D G2 h2 hz hzp hkin KC1 G1 B1 hle hne himem hzi hzX hX y0 y1 y2 HY HS
    go_upto_region 7 with fail
    rw [HXX.out]
    clear q0 z0 q1 z1 q2 z2 HXX
    rcases hcase with ⟨hne, rfl, rfl, rfl⟩ | ⟨rfl, rfl, rfl, rfl⟩
    · have ne : (e == 0) = false := beq_eq_false_iff_ne.2 hne
      have nb : (e != 0) = true := by simp [bne, ne]
      clear hne HSR
      go_wp2_with fail
      with_reducible refine KS.out.mono ?_
      rintro ee w3 ⟨B, m, T, rfl, hT, hTm, hmx, hTp, h3, hso⟩
      have GG := Lib.hid (GF.out.trans h3)
      clear hT hTm hmx hTp h3 hso
      go_wp2_with fail
      go_ret3
      exact ⟨none, 0, [], rfl, SMem.nil_, Nat.le_refl _, by omega, rfl, GG.out, SOwn.nil _ _⟩
    · clear HSR
      go_wp2_with fail
      with_reducible refine KS.out.mono ?_
      rintro ee w3 ⟨B, m, T, rfl, hT, hTm, hmx, hTp, h3, hso⟩
      have HSO := Lib.hid (hso.low GF.out.size)
      have GG := Lib.hid (GF.out.trans h3)
      have HT := Lib.hid hT
      have HTM := Lib.hid hTm
      have HMX := Lib.hid hmx
      have HTP := Lib.hid hTp
      clear hT hTm hmx hTp h3 hso
      generalize hN : T.length = N at *
      go_wp2_with fail
      go_ret3
      exact ⟨B, m, T, by rw [hN]; rfl, hN ▸ HT.out, hN ▸ HTM.out, HMX.out, HTP.out, GG.out, hN ▸ HSO.out⟩
end
end Go.Proofs.Ytmkkeknimpjfoaa
