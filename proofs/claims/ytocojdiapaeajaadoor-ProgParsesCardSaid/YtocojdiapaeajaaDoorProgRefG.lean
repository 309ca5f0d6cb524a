/-
  deadboltref12: what a text is parsed as.
-/
import Derived.Test.YtocojdiapaeajaaDoorProgRefF
namespace Go.Proofs.YtocojdiapaeajaaDoor
open Go.ChangeShapes Go.WideShapes Go.ChangeAt Go.RowKit
set_option linter.unusedVariables false
set_option linter.unusedSimpArgs false
set_option maxRecDepth 100000
namespace P12

section
variable {w : World} {base lo : Nat} {A : Option Addr} {n c : Nat} {R : List PV} {B : Option Addr} {d : Nat} {x0 : PV}
/-- One program more, and where the row lies. -/
theorem wpList_append_prog {ops : Array Oper} {rest : List Oper} {o : Oper} {a : Act} {Q : Exit → Act → World → Prop} (hgd : o.guard = none) (s x : Operand)
    (ho : o.op = .call { callee := .builtin .append, args := #[s, x], argTypes := #[22, 22] }) (hs : a.eval s = .slice A n c) (hx : a.eval x = .slice B 1 d)
    (h : POwn w base lo A n c R) (hr : PMem w B 1 [x0]) (hoff : 0 < x0.n → ∀ k, x0.A.map (·.block) = some k → lo ≤ k ∧ k < w.heap.size ∧ A.map (·.block) ≠ some k)
    (hl : n ≤ 100000) (hbase : base ≤ w.heap.size)
    (hK : ∀ A' c' w', POwn w' base lo A' (n + 1) c' (R ++ [x0]) → w.grownBy w' (A.map (·.block)) → (∀ k, A'.map (·.block) = some k → A.map (·.block) = some k ∨ w.heap.size ≤ k) → wpList Tryd.prog ops Q rest (a.put o.dst (.slice A' (n + 1) c')) w') : wpList Tryd.prog ops Q (o :: rest) a w := by
  refine wpList_plain hgd fun K hK' => ?_
  obtain ⟨i, hi, hz, hsz, hb⟩ := info_parts infoActs
  obtain ⟨A', c', w', h1, h2, h3, h4⟩ := run_append_omem2 (P := Tryd.prog) w PV.enc (fun _ => True) (fun _ => rfl) base 22 o.type 32 i (.slice none 0 0) 24 Tryd.underlying22 hi hz hsz hb rfl A n c R h.row B 1 d [x0] hr.1 (by unfold maxLen; omega) (by omega) hbase
  have all : ∀ x ∈ R ++ [x0], x.ok w ∧ (0 < x.n → ∀ k, x.A.map (·.block) = some k → lo ≤ k ∧ k < w.heap.size ∧ A.map (·.block) ≠ some k) := by
    intro x hx
    rcases List.mem_append.1 hx with hx | hx
    · exact ⟨h.ok x hx, h.off x hx⟩
    · rw [List.mem_singleton] at hx
      subst hx
      exact ⟨hr.2 x List.mem_cons_self, hoff⟩
  unfold Oper.wp execOp
  simp only [ho, resolve, invoke, builtin, Sem.run_bind, Sem.run_pure, Result.andThen_ok, List.map_toArray, List.map_cons, List.map_nil, hs, hx, h1]
  refine hK' _ _ (hK A' c' w' ⟨h2, fun x hx => ?_, fun x hx h0 k hk => ?_⟩ h3 h4)
  · obtain ⟨⟨a1, a2⟩, ho⟩ := all x hx
    exact ⟨mem_kept a1 h3 fun h0 k hk => (ho h0 k hk).2.2, a2⟩
  · obtain ⟨e1, e2, e3⟩ := (all x hx).2 h0 k hk
    refine ⟨e1, Nat.lt_of_lt_of_le e2 h3.size, fun e => ?_⟩
    rcases h4 k e with e' | e'
    · exact e3 e'
    · omega
theorem pown_late (h : POwn w base lo A n c R) {k : Nat} (hk : A.map (·.block) = some k) : base ≤ k ∧ k < w.heap.size := by
  rcases h.row.2.2.2 with ⟨rfl, _⟩ | ⟨b, off, rfl, h5, h6, _⟩
  · cases hk
  · cases hk
    exact ⟨h5, h6⟩
end

set_option maxHeartbeats 8000000 in
theorem rParse_is {s : Bs} (hs : s.length ≤ 100000) {e0 k0 : Int} {P : List (List Ac)} (hT : prs s = (e0, k0, P)) (w : World) :
    Calls Tryd.prog 9 #[.string (bs s)] w fun e w' => (∃ A n c R, e = .returned (.tuple #[.slice A n c, .int .i64 k0, .int .i64 e0]) ∧ pl R = P ∧ PMem w' A n R) ∧ Gr w w' := by
  have hsz := bs_size s
  unfold prs at hT
  by_cases h20 : 2000 < s.length
  · rw [if_pos h20] at hT
    cases hT
    have t0 : (2000 : Int) < (s.length : Int) := by omega
    go_enter Tryd.func9, Tryd.ntmps9
    go_wp2_with fail
    go_ret3
    exact ⟨⟨none, 0, 0, [], rfl, rfl, PMem.nil_⟩, Gr.refl _⟩
  rw [if_neg h20] at hT
  have t0 : ¬ (2000 : Int) < (s.length : Int) := by omega
  have hlen := lns_len s []
  have cpc := fun W => Lib.hid (rlines_is hs W)
  obtain ⟨L, hL⟩ : ∃ L, lns [] s = L := ⟨_, rfl⟩
  rw [hL] at hT hlen
  simp only [hL] at cpc
  have HLL := Lib.hid hlen
  obtain ⟨N, hN⟩ : ∃ N, L.length = N := ⟨_, rfl⟩
  have HN := Lib.hid hN
  simp only [hN] at cpc
  have HP := Lib.hid (show combL [] (lnsP 0 (L.drop 0)) = (e0, k0, P) by rw [combL_nil]; exact hT)
  have HO0 := Lib.hid (show POwn (w.alloc (.cells #[] 32)) w.heap.size 0 (some ⟨w.heap.size, 0, none⟩) 0 0 [] from
    ⟨⟨⟨rfl, by simp, fun h => absurd h (by omega)⟩, Nat.le_refl _, Nat.zero_le _, .inr ⟨w.heap.size, 0, rfl, Nat.le_refl _, by simp, fun j hj => absurd hj (by omega)⟩⟩, by simp, by simp⟩)
  have HG0 := Lib.hid ((Gr.refl w).al (.cells #[] 32))
  clear hT hL hlen hN h20
  go_enter Tryd.func9, Tryd.ntmps9
  go_wp2_with fail
  with_reducible refine (cpc _).out.mono ?_
  rintro e w1 ⟨⟨A, c, rfl, hgs⟩, hb1⟩
  obtain ⟨hm1, hla⟩ := hgs
  rw [HN.out] at hm1
  have HM1 := Lib.hid hm1
  have HO1 := Lib.hid (HO0.out.gr hb1)
  have HG1 := Lib.hid (HG0.out.trans hb1)
  have HLA := Lib.hid (show ∀ z, A.map (·.block) = some z → w.heap.size + 1 ≤ z ∧ (0 < N → z < w1.heap.size) from fun z hz => by
    have h1 := hla z hz
    rw [World.size_alloc] at h1
    refine ⟨h1, fun hN => ?_⟩
    obtain ⟨b, off, rfl, hb, _⟩ := hm1.2.2 hN
    simp at hz
    omega)
  have hs1 := hb1.size
  have HB0 := Lib.hid (show Lies w.heap.size w1.heap.size (some ⟨w.heap.size, 0, none⟩) from fun z hz => .inl (by simpa using hz.symm))
  clear cpc HO0 HG0 hb1 hm1 hla
  go_wp2_with fail
  go_loopw [5, 17] (fun v i wr => ∃ (k : Nat) (R : List PV) (B : Option Addr) (q : Nat), k ≤ N ∧ k ≤ 8 ∧ i = .int .i64 k ∧ v = .slice B k q ∧ Hid (POwn wr w.heap.size 0 B k q R) ∧ Hid (combL (pl R) (lnsP k (L.drop k)) = (e0, k0, P)) ∧ Hid (Gr w wr) ∧ Hid (Lies w.heap.size w1.heap.size B) ∧ Hid (StrMem wr A N L) ∧ w1.heap.size ≤ wr.heap.size) (fun _ i _ => N - (intOf i).toNat)
  case atStart => exact ⟨0, [], _, 0, Nat.zero_le _, by omega, rfl, rfl, HO1, HP, HG1, HB0, HM1, Nat.le_refl _⟩
  case round =>
    obtain ⟨k, R, B, q, hk, hk8, rfl, rfl, HO, HC, HG, HLB, HMR, hsr⟩ := hrel
    by_cases hlt : k < N
    · obtain ⟨b, off, t, rfl, hbl, ht, htl, c0⟩ := HMR.out.at_ hlt
      have i0 : (0 : Int) ≤ (k : Int) := by omega
      have i1 : (k : Int) < (N : Int) := by omega
      have hdr : L.drop k = t :: L.drop (k + 1) := by
        obtain ⟨hl, rfl⟩ := List.getElem?_eq_some_iff.1 ht
        exact List.drop_eq_getElem_cons hl
      have hc := HC.out
      rw [hdr] at hc
      by_cases h8 : 8 ≤ k
      · have hr := lnsP_full (s := t) (r := L.drop (k + 1)) (out := pl R) h8
        rw [hc] at hr
        cases hr
        have k8 : ((k : Int) == 8) = true := by
          obtain rfl : k = 8 := by omega
          rfl
        clear ht HC HP HO hdr hc
        go_wp2_with fail
        go_ret3
        exact ⟨⟨none, 0, 0, [], rfl, rfl, PMem.nil_⟩, HG.out⟩
      · obtain ⟨e1, a⟩ : ∃ e1 a, linP t = (e1, a) := ⟨_, _, rfl⟩
        obtain ⟨a, ha⟩ := a
        have htl2 : t.length ≤ 100000 := by
          have := HLL.out t (List.mem_of_getElem? ht)
          simp at this
          omega
        have c2 := fun W => Lib.hid (rprogram_is ha htl2 W)
        have k8 : ((k : Int) == 8) = false := by
          simp only [beq_eq_false_iff_ne, ne_eq]
          omega
        by_cases he : e1 = 0
        · subst he
          have hstep := lnsP_step (s := t) (r := L.drop (k + 1)) (out := pl R) (show k < 8 by omega) (by rw [ha])
          rw [hc, ha] at hstep
          have HST := Lib.hid hstep.symm
          clear hstep ht ha HC HP htl hdr hc
          go_wp2_with fail
          with_reducible refine (c2 _).out.mono ?_
          rintro e w2 ⟨⟨x, rfl, hgx⟩, hb2⟩
          have g2 := (Gr.refl w2).al (.cells #[.slice x.A x.n x.c] 32)
          have hxo := hgx.1.gr g2
          have HM := Lib.hid (pmem_one (x := x) (Blk.new w2 #[.slice x.A x.n x.c] 32) hxo)
          have HO2 := Lib.hid ((HO.out.gr hb2).gr g2)
          have HG2 := Lib.hid ((HG.out.trans hb2).trans g2)
          have hb := HG2.out.size
          have HM2 := Lib.hid ((HMR.out.gr hb2).gr g2)
          have hsz2 : w1.heap.size ≤ (w2.alloc (.cells #[.slice x.A x.n x.c] 32)).heap.size := Nat.le_trans hsr (Nat.le_trans hb2.size g2.size)
          have HOFF := Lib.hid (show 0 < x.n → ∀ z, x.A.map (·.block) = some z → 0 ≤ z ∧ z < (w2.alloc (.cells #[.slice x.A x.n x.c] 32)).heap.size ∧ B.map (·.block) ≠ some z from fun h0 z hz => by
            obtain ⟨b', off', e', hb', _⟩ := hxo.1.2.2 h0
            have h1 := hgx.2.2 z hz
            rw [e'] at hz
            obtain rfl : b' = z := by simpa using hz
            refine ⟨Nat.zero_le _, hb', fun e2 => ?_⟩
            have := (pown_late HO.out e2).2
            omega)
          have HXL := Lib.hid hgx.2.1
          clear c2 g2 hb2 HMR hgx hxo
          go_wp2_with (at_builtin; refine Mark.stop ?_)
          refine Mark.go ?_
          refine wpList_append_prog rfl (.tmp 34) (.tmp 36) rfl rfl rfl HO2.out HM.out HOFF.out (by omega) hb ?_
          intro B' q' w3 h1 h2 h3
          have H1 := Lib.hid h1
          have H2 := Lib.hid (HG2.out.gb h2 (fun j hj => (pown_late HO2.out hj).1))
          have HM3 := Lib.hid (smem_kept HM2.out h2 (fun hN z hz e => by
            have e1 := HLA.out z hz
            have e2 := e1.2 hN
            rcases HLB.out z e with h | h <;> omega))
          have HLB3 := Lib.hid (show Lies w.heap.size w1.heap.size B' from fun z hz => by
            rcases h3 z hz with h3 | h3
            · exact HLB.out z h3
            · omega)
          have hs3 : w1.heap.size ≤ w3.heap.size := Nat.le_trans hsz2 h2.size
          have HST2 := Lib.hid (show combL (pl (R ++ [x])) (lnsP (k + 1) (L.drop (k + 1))) = (e0, k0, P) from by
            have e3 : pl (R ++ [x]) = pl R ++ [a] := by unfold pl; rw [List.map_append, ← HXL.out]; rfl
            rw [e3]
            exact HST.out)
          clear h1 h2 h3 HM HO HO2 HM2 HLB hsz2 hb HOFF HXL HST
          go_wp2_with fail
          go_roundw
          case rel => exact ⟨k + 1, R ++ [x], B', q', by omega, by omega, by go_num, rfl, H1, HST2, H2, HLB3, HM3, hs3⟩
          case measure => simp [intOf]; omega
        · have hstep := lnsP_wrong (s := t) (r := L.drop (k + 1)) (out := pl R) (show k < 8 by omega) (by rw [ha]; exact he)
          rw [hc, ha] at hstep
          cases hstep
          have hne : (e1 == 0) = false := by simpa using he
          have hne' : (e1 != 0) = true := by simpa using he
          clear ht ha HC HP HO he htl hdr hc
          go_wp2_with fail
          with_reducible refine (c2 _).out.mono ?_
          rintro e w2 ⟨⟨x, rfl, hgx⟩, hb2⟩
          have HGF := Lib.hid (HG.out.trans hb2)
          clear c2 hgx
          go_wp2_with fail
          go_ret3
          exact ⟨⟨none, 0, ⟨0, rfl⟩, [], rfl, PMem.nil_⟩, HGF.out⟩
    · obtain rfl : k = N := by omega
      have hend := HC.out
      rw [List.drop_of_length_le (by rw [HN.out]; exact Nat.le_refl _), lnsP_end] at hend
      cases hend
      have HF := Lib.hid HO.out.mem
      clear HC HO HP
      go_wp2_with fail
      go_ret3
      exact ⟨⟨B, k, q, R, rfl, rfl, HF.out⟩, HG.out⟩
end P12
end Go.Proofs.YtocojdiapaeajaaDoor
