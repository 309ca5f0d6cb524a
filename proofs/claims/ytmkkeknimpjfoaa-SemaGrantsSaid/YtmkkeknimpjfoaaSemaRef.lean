/-
  deadboltref10: May, set, Acquire, Release.
-/
import Derived.Test.YtmkkeknimpjfoaaSemaQueued
namespace Go.Proofs.Ytmkkeknimpjfoaa
open Go.ChangeShapes Go.WideShapes Go.ChangeAt Go.RowKit
set_option maxRecDepth 100000
set_option linter.unusedVariables false
set_option linter.unusedSimpArgs false

/-- A table that is answered, with what beside. -/
def GaveR (Q : List (Int × Int × List Int)) (vs : Array Value) (W : World) (ee : Ending) (W' : World) : Prop :=
  ∃ B m T, ee = .returned (.tuple (#[.slice B T.length m] ++ vs)) ∧ SMem W' B T.length T ∧ T.map SV.pl = Q ∧ Gr W W'
section
variable {w : World} {A : Option Addr} {n c : Nat} {L : List SV} {a : Int}
set_option maxHeartbeats 4000000 in
theorem rMay_is (hm : SMem w A n L) (hn : n ≤ 1000000) {v : Bool} (hv : v = true ↔ Tab L ∧ IsKey a) :
    Calls Try.prog 14 #[.slice A n c, .int .i64 a] w fun e w' => e = .returned (.bool v) ∧ Gr w w' := by
  obtain ⟨b1, hb1⟩ := yes_no (Tab L)
  obtain ⟨b2, hb2⟩ := yes_no (IsKey a)
  have CT := Lib.hid (rTab_is (c := c) hm hn hb1)
  have CK := Lib.hid (fun W => rKey_is a hb2 W)
  obtain rfl : v = (b1 && b2) := by
    cases v <;> cases b1 <;> cases b2 <;> simp_all
  clear hv hb1 hb2 hm
  cases b1
  · go_enter Try.func14, Try.ntmps14
    go_wp2_with fail
    with_reducible refine CT.out.mono ?_
    rintro e w1 ⟨rfl, h1⟩
    go_wp2_with fail
    go_ret
    exact ⟨rfl, h1⟩
  · go_enter Try.func14, Try.ntmps14
    go_wp2_with fail
    with_reducible refine CT.out.mono ?_
    rintro e w1 ⟨rfl, h1⟩
    go_wp2_with fail
    with_reducible refine (CK.out _).mono ?_
    rintro e w2 ⟨rfl, rfl⟩
    go_wp2_with fail
    go_ret
    exact ⟨by simp, h1⟩
set_option maxHeartbeats 4000000 in
theorem rset_is (hm : SMem w A n L) (hn : n ≤ 100000) (ht : TOk L) {s s' : SV} (hs : SOk s') (hp : s.pl = s'.pl) (hsok : s.ok w) {Q : List (Int × Int × List Int)} {e : Int}
    (h : (64 < (setl L s').length ∧ Q = [] ∧ e = 5) ∨ ((setl L s').length ≤ 64 ∧ Q = (setl L s').map SV.pl ∧ e = 0)) :
    Calls Try.prog 32 #[.slice A n c, .agg #[.int .i64 s.addr, .int .i64 s.cnt, .slice s.A s.n s.c]] w (GaveR Q #[.int .i64 e] w) := by
  have hm2 : (setl L s').map SV.pl = (setl L s).map SV.pl := by
    rcases SetR.any L s' with ⟨Q', e', h'⟩
    obtain ⟨h1, h2, h3⟩ := plq hp
    unfold setl
    rw [h1]
    by_cases c : SNil s
    · rw [if_pos c, if_pos ((SNil.pl hp).1 c)]
    · rw [if_neg c, if_neg (fun k => c ((SNil.pl hp).2 k))]
      simp [hp]
  have hl2 : (setl L s').length = (setl L s).length := len_pl hm2
  rw [hl2, hm2] at h
  have g0 := (Gr.refl w).al (.cells #[.int .i64 s.addr, .int .i64 s.cnt, .slice s.A s.n s.c] 46)
  have KS := Lib.hid (rSet_is (c := c) (hm.gr g0) hn ht (hs.pl hp.symm) (hsok.gr g0))
  obtain ⟨N, hN⟩ : ∃ N, (setl L s).length = N := ⟨_, rfl⟩
  rw [hN] at KS h
  have HN := Lib.hid hN
  have G0 := Lib.hid g0
  clear hm2 hl2 hm ht hs hp hsok g0 hN
  rcases h with ⟨h64, rfl, rfl⟩ | ⟨h64, rfl, rfl⟩
  · have h1 : (64 : Int) < (N : Int) := by omega
    go_enter Try.func32, Try.ntmps32
    go_wp2_with fail
    with_reducible refine KS.out.mono ?_
    rintro e w1 ⟨B, m, rfl, hT, hle, h2⟩
    have GG := Lib.hid (G0.out.trans h2)
    clear hT hle h2
    go_wp2_with fail
    go_ret2
    exact ⟨none, 0, [], rfl, SMem.nil_, rfl, GG.out⟩
  · have h1 : ¬ (64 : Int) < (N : Int) := by omega
    go_enter Try.func32, Try.ntmps32
    go_wp2_with fail
    with_reducible refine KS.out.mono ?_
    rintro e w1 ⟨B, m, rfl, hT, hle, h2⟩
    have GG := Lib.hid (G0.out.trans h2)
    have HT := Lib.hid hT
    clear hT hle h2
    go_wp2_with fail
    go_ret2
    exact ⟨B, m, setl L s, by rw [HN.out]; rfl, by rw [HN.out]; exact HT.out, rfl, GG.out⟩
end
end Go.Proofs.Ytmkkeknimpjfoaa
