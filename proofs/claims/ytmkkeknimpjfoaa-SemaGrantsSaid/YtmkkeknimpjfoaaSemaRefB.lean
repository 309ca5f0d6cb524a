/-
  deadboltref10: Acquire.
-/
import Derived.Test.YtmkkeknimpjfoaaSemaRef
namespace Go.Proofs.Ytmkkeknimpjfoaa
open Go.ChangeShapes Go.WideShapes Go.ChangeAt Go.RowKit
set_option maxRecDepth 100000
set_option linter.unusedVariables false
set_option linter.unusedSimpArgs false

section
variable {w : World} {A : Option Addr} {n c : Nat} {L : List SV} {a : Int}
theorem rgot_is (hm : SMem w A n L) (hn : n ≤ 1000000) (ha : B64 a) (ht : TOk L) :
    Calls Try.prog 21 #[.slice A n c, .int .i64 a] w fun e w' => ∃ (B : Option Addr) (m d : Nat), e = .returned (.agg #[.int .i64 a, .int .i64 (gt L a).1, .slice B m d]) ∧ SV.ok w' ⟨a, (gt L a).1, B, m, d, (gt L a).2⟩ ∧ Gr w w' := by
  refine (rGet_is (c := c) hm hn ha (g := (a, (gt L a).1, (gt L a).2)) (fun x hx e => by subst e; rw [gt_mem ht hx]; rfl) (fun h => by rw [gt_no h])).mono ?_
  rintro e w' ⟨⟨ya, yq, yA, yn, yc, yl⟩, rfl, hok, hp, hg⟩
  obtain ⟨h1, h2, h3⟩ := (show ya = a ∧ yq = (gt L a).1 ∧ yl = (gt L a).2 by simpa [SV.pl] using hp)
  subst h1 h2 h3
  exact ⟨yA, yn, yc, rfl, hok, hg⟩
set_option maxHeartbeats 8000000 in
theorem rAcq_is (hm : SMem w A n L) (hn : n ≤ 100000) (ht : Tab L) (hk : IsKey a) (ha : B64 a) {who : Int} (h0 : 0 ≤ who) (hw : B64 who) {first : Bool} {Q : List (Int × Int × List Int)} {is : Bool} {e : Int} (h : AcqR L a who first Q is e) :
    Calls Try.prog 17 #[.slice A n c, .int .i64 a, .int .i64 who, .bool first] w (GaveR Q #[.bool is, .int .i64 e] w) := by
  have h' := (h.resolve_left (fun h' => by rcases h'.1 with h1 | h1 | h1; exact h1 ht; exact h1 hk; omega)).2.2.2
  obtain ⟨k1, k2, k3, k4⟩ := gt_cnt ht.2 hk
  have KG := Lib.hid (rgot_is (c := c) hm (by omega) ha ht.2)
  have HM := Lib.hid hm
  have HT := Lib.hid ht
  have HA := Lib.hid ha
  have HW := Lib.hid hw
  have HK := Lib.hid hk
  obtain ⟨q, hq⟩ : ∃ q, (gt L a).1 = q := ⟨_, rfl⟩
  obtain ⟨l, hl⟩ : ∃ l, (gt L a).2 = l := ⟨_, rfl⟩
  rw [hq, hl] at h'
  rw [hq] at k1 k2
  rw [hl] at k3
  rw [hq, hl] at KG k4
  clear h hm ht hk ha hw
  rcases h' with ⟨hin, rfl, rfl, rfl⟩ | ⟨hin, hc, rfl, rfl, rfl⟩ | ⟨hin, rfl, h64, rfl, rfl, rfl⟩ | h'
  · clear k4 k3
    go_enter Try.func17, Try.ntmps17
    go_wp2_with fail
    with_reducible refine KG.out.mono ?_
    rintro ee w1 ⟨B, m, d, rfl, hok, h1⟩
    have hi := hok.2.2.1.gr ((Gr.refl w1).al (.cells #[.int .i64 a, .int .i64 q, .slice B m d] 46))
    obtain ⟨p, hp, hC⟩ := L7.rPlace_any (c := d) hi hok.lt who
    have CP := Lib.hid hC
    have hpp : ¬ p < 0 := fun hc => hp.1 hc hin
    have GF := Lib.hid (h1.al (.cells #[.int .i64 a, .int .i64 q, .slice B m d] 46))
    clear hok hi hp hC h1 hin
    go_wp2_with fail
    with_reducible refine CP.out.mono ?_
    rintro ee w2 ⟨rfl, rfl⟩
    go_wp2_with fail
    go_ret3
    exact ⟨none, 0, [], rfl, SMem.nil_, rfl, GF.out⟩
  · have hw1 : wrap64 (q - 1) = q - 1 := by unfold wrap64; omega
    have hlz : l = [] := k4.resolve_left (by omega)
    have hh : Has L a := (gt_has HT.out.2).2 fun e => by rw [e] at hq; simp at hq; omega
    have hso : SOk (sp a (q - 1) l) := ⟨HK.out, by show 0 ≤ q - 1; omega, by show q - 1 ≤ 2147483647; omega, k3, .inr hlz⟩
    have h64 : (setl L (sp a (q - 1) l)).length ≤ 64 := Nat.le_trans (setl_len HT.out.2 (.inl hh)) HT.out.1
    have KS := Lib.hid (fun (W : World) (g : Gr w W) (s : SV) (hsok : s.ok W) (hp : s.pl = (sp a (q - 1) l).pl) => rset_is (c := c) (HM.out.gr g) hn HT.out.2 hso hp hsok (.inr ⟨h64, rfl, rfl⟩))
    have HB : Hid (B64 (q - 1)) := Lib.hid ⟨by omega, by omega⟩
    clear k4 k3 hlz hh hso h64
    go_enter Try.func17, Try.ntmps17
    go_wp2_with fail
    with_reducible refine KG.out.mono ?_
    rintro ee w1 ⟨B, m, d, rfl, hok, h1⟩
    have hi := hok.2.2.1.gr ((Gr.refl w1).al (.cells #[.int .i64 a, .int .i64 q, .slice B m d] 46))
    obtain ⟨p, hp, hC⟩ := L7.rPlace_any (c := d) hi hok.lt who
    have CP := Lib.hid hC
    have hpp : p < 0 := hp.2 hin
    have GF := Lib.hid (h1.al (.cells #[.int .i64 a, .int .i64 (q - 1), .slice B m d] 46))
    have HZ : Hid (SV.ok (w1.alloc (.cells #[.int .i64 a, .int .i64 (q - 1), .slice B m d] 46)) ⟨a, q - 1, B, m, d, l⟩) := Lib.hid ⟨HA.out, HB.out, hok.2.2.1.gr ((Gr.refl w1).al _), hok.2.2.2⟩
    clear hok hi hp hC h1 hin
    go_wp2_with fail
    with_reducible refine CP.out.mono ?_
    rintro ee w2 ⟨rfl, rfl⟩
    go_wp2_with fail
    with_reducible refine (KS.out _ GF.out ⟨a, q - 1, B, m, d, l⟩ HZ.out rfl).mono ?_
    rintro ee w2 ⟨B', m', T, rfl, hT, hTp, h2⟩
    have GG := Lib.hid (GF.out.trans h2)
    have HTT := Lib.hid hT
    clear hT h2
    generalize hN : T.length = N at *
    simp only [Array.append_assoc, List.append_toArray, List.cons_append, List.nil_append]
    go_wp2_with fail
    go_ret3
    exact ⟨B', m', T, by rw [hN]; rfl, hN ▸ HTT.out, hTp, GG.out⟩
  · have h64' : l.length = 64 := h64
    clear k4 k3
    go_enter Try.func17, Try.ntmps17
    go_wp2_with fail
    with_reducible refine KG.out.mono ?_
    rintro ee w1 ⟨B, m, d, rfl, hok, h1⟩
    have hi := hok.2.2.1.gr ((Gr.refl w1).al (.cells #[.int .i64 a, .int .i64 0, .slice B m d] 46))
    obtain ⟨p, hp, hC⟩ := L7.rPlace_any (c := d) hi hok.lt who
    have CP := Lib.hid hC
    have hpp : p < 0 := hp.2 hin
    have hm64 : m = 64 := by rw [← h64']; exact hok.len.symm
    subst hm64
    have GF := Lib.hid (h1.al (.cells #[.int .i64 a, .int .i64 0, .slice B 64 d] 46))
    clear hok hi hp hC h1 hin h64 h64'
    go_wp2_with fail
    with_reducible refine CP.out.mono ?_
    rintro ee w2 ⟨rfl, rfl⟩
    go_wp2_with fail
    go_ret3
    exact ⟨none, 0, [], rfl, SMem.nil_, rfl, GF.out⟩
  · have hcom : who ∉ l ∧ q = 0 ∧ l.length < 64 ∧ is = false ∧ ((64 < (setl L (sp a 0 (psh first l who))).length ∧ Q = [] ∧ e = 5) ∨ ((setl L (sp a 0 (psh first l who))).length ≤ 64 ∧ Q = (setl L (sp a 0 (psh first l who))).map SV.pl ∧ e = 0)) := by
      rcases h' with ⟨h1, h2, h3, h4, h5, h6, h7⟩ | ⟨h1, h2, h3, h4, h5, h6, h7⟩
      · exact ⟨h1, h2, h3, h6, .inl ⟨h4, h5, h7⟩⟩
      · exact ⟨h1, h2, h3, h6, .inr ⟨h4, h5, h7⟩⟩
    clear h'
    obtain ⟨hin, rfl, h64, rfl, hres⟩ := hcom
    have hso : SOk (sp a 0 (psh first l who)) := ⟨HK.out, Int.le_refl _, (by decide : (0 : Int) ≤ 2147483647), psh_ok k3 h0 hin h64, .inl rfl⟩
    have KS := Lib.hid (fun (W : World) (g : Gr w W) (s : SV) (hsok : s.ok W) (hp : s.pl = (sp a 0 (psh first l who)).pl) => rset_is (c := c) (HM.out.gr g) hn HT.out.2 hso hp hsok hres)
    have H64 := Lib.hid h64
    have KPU := Lib.hid (fun (W : World) (B : Option Addr) (m d : Nat) (hi : IMem W B m l) (hm64 : m ≤ 1000000) => L7.rPush_is (c := d) hi hm64 HW.out (first := first) (R := psh first l who) rfl)
    generalize psh first l who = P at *
    clear k4 k3 hso hres h64
    go_enter Try.func17, Try.ntmps17
    go_wp2_with fail
    with_reducible refine KG.out.mono ?_
    rintro ee w1 ⟨B, m, d, rfl, hok, h1⟩
    have hi := hok.2.2.1.gr ((Gr.refl w1).al (.cells #[.int .i64 a, .int .i64 0, .slice B m d] 46))
    obtain ⟨p, hp, hC⟩ := L7.rPlace_any (c := d) hi hok.lt who
    have CP := Lib.hid hC
    have hpp : p < 0 := hp.2 hin
    have hml : m < 64 := by have h : l.length = m := hok.len; have h2 := H64.out; omega
    have hmn : ((m : Int) == 64) = false := beq_eq_false_iff_ne.2 (by omega)
    have G1 := Lib.hid (h1.al (.cells #[.int .i64 a, .int .i64 0, .slice B m d] 46))
    have BX := Lib.hid (Blk.new w1 #[.int .i64 a, .int .i64 0, .slice B m d] 46)
    have KP2 := Lib.hid (KPU.out _ B m d hi (by omega))
    have hle := h1.size
    clear hok hi hp hC h1 hin KPU
    go_wp2_with fail
    with_reducible refine CP.out.mono ?_
    rintro ee w2 ⟨rfl, rfl⟩
    go_wp2_with fail
    with_reducible refine KP2.out.mono ?_
    rintro ee w2 ⟨C, k, rfl, own2, h2⟩
    obtain ⟨M, hM⟩ : ∃ M, m + 1 = M := ⟨_, rfl⟩
    rw [hM] at own2 ⊢
    clear hM
    have D := BX.out.gr h2
    obtain ⟨q0, z0⟩ := D.at_ (k := 0) rfl
    obtain ⟨q1, z1⟩ := D.at_ (k := 1) rfl
    obtain ⟨q2, z2⟩ := D.at_ (k := 2) rfl
    have DX : Blk (w2.setCell ⟨w1.heap.size, 2, none⟩ (.slice C M k)) w1.heap.size #[.int .i64 a, .int .i64 0, .slice C M k] 46 := by simpa using D.set 2 (.slice C M k)
    have GX := (G1.out.trans h2).st (p := ⟨w1.heap.size, 2, none⟩) hle (.slice C M k)
    have OX := own2.st (p := ⟨w1.heap.size, 2, none⟩) (by simp) (.slice C M k)
    have KS2 := Lib.hid (KS.out _ GX ⟨a, 0, C, M, k, P⟩ ⟨HA.out, b64_zero, OX.mem, OX.le, by have := OX.max; unfold maxLen at this; exact this⟩ rfl)
    have GXX := Lib.hid GX
    have DXX := Lib.hid DX
    clear own2 h2 D DX GX OX KS KP2 BX G1 hle
    go_upto_region 11 with fail
    clear q0 z0 q1 z1 q2 z2
    generalize w2.setCell ⟨w1.heap.size, 2, none⟩ (.slice C M k) = X at *
    obtain ⟨q0, z0⟩ := DXX.out.at_ (k := 0) rfl
    obtain ⟨q1, z1⟩ := DXX.out.at_ (k := 1) rfl
    obtain ⟨q2, z2⟩ := DXX.out.at_ (k := 2) rfl
    clear z0 z1 z2
    go_wp2_with fail
    with_reducible refine KS2.out.mono ?_
    rintro ee w3 ⟨B', m', T, rfl, hT, hTp, h3⟩
    have GG := Lib.hid (GXX.out.trans h3)
    have HTT := Lib.hid hT
    clear hT h3
    generalize hN : T.length = N at *
    simp only [Array.append_assoc, List.append_toArray, List.cons_append, List.nil_append]
    go_wp2_with fail
    go_ret3
    exact ⟨B', m', T, by rw [hN]; rfl, hN ▸ HTT.out, hTp, GG.out⟩
end
end Go.Proofs.Ytmkkeknimpjfoaa
