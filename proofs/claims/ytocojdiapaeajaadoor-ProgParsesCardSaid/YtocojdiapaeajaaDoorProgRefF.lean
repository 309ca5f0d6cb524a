/-
  deadboltref12: a line's program.
-/
import Derived.Test.YtocojdiapaeajaaDoorProgRefD
import Derived.Test.YtocojdiapaeajaaDoorProgRefE
import Derived.Deep.AppendLies
namespace Go.Proofs.YtocojdiapaeajaaDoor
open Go.ChangeShapes Go.WideShapes Go.ChangeAt Go.RowKit
set_option linter.unusedVariables false
set_option linter.unusedSimpArgs false
set_option maxRecDepth 100000
namespace P12

theorem got_none {w : World} {B : Nat} : GotP B w [] ⟨none, 0, 0, []⟩ := ⟨⟨Mem.nil_, Nat.le_refl _, by show 0 ≤ _; omega⟩, rfl, Late.none⟩
theorem got_empty {w : World} {B g : Nat} (h : B ≤ g) : GotP B w [] ⟨some ⟨g, 0, none⟩, 0, 0, []⟩ :=
  ⟨⟨⟨rfl, by simp, fun h => absurd h (Nat.lt_irrefl 0)⟩, Nat.le_refl _, by show 0 ≤ _; omega⟩, rfl, fun k hk => by simp at hk; omega⟩

section
variable {w : World} {base : Nat} {v : Value} {l : List Ac} {A : Option Addr} {c : Nat} {a0 : Ac}
/-- One act more, and where the row lies. -/
theorem wpList_append_act {ops : Array Oper} {rest : List Oper} {o : Oper} {a : Act} {Q : Exit → Act → World → Prop} (hgd : o.guard = none) (s x : Operand)
    (ho : o.op = .call { callee := .builtin .append, args := #[s, x], argTypes := #[32, 32] }) (hs : a.eval s = v) (hx : a.eval x = .slice A 1 c)
    (h : AOwn w base v l) (hr : Mem w A 1 [a0]) (hl : l.length ≤ 100000) (hbase : base ≤ w.heap.size)
    (hK : ∀ v' w', AOwn w' base v' (l ++ [a0]) → w.grownBy w' v.ownBlock → (v'.ownBlock = v.ownBlock ∨ v'.ownBlock = some w.heap.size) → wpList Tryd.prog ops Q rest (a.put o.dst v') w') : wpList Tryd.prog ops Q (o :: rest) a w := by
  refine wpList_plain hgd fun K hK' => ?_
  obtain ⟨i, hi, hz, hsz, hb⟩ := info_parts infoAct
  obtain ⟨b, off, rfl, hbl, hc⟩ := hr.2.2 (by omega)
  obtain ⟨v', w', hrun, h2, h3, _, h5⟩ := run_append_own_at (P := Tryd.prog) w base 32 o.type 38 i (.agg #[.int .i64 0, .int .i64 0]) 2 16 Tryd.underlying32 hi hz hsz hb rfl (by decide) v l.length (flat l) h ⟨b, off, none⟩ 1 c (flat [a0]) (by rw [flat_len]; rfl) (fun j u hu => by rw [add_plain]; exact hc j u hu) (flat_one [a0]) (by unfold maxLen; omega) (by omega) hbase
  unfold Oper.wp execOp
  simp only [ho, resolve, invoke, builtin, Sem.run_bind, Sem.run_pure, Result.andThen_ok, List.map_toArray, List.map_cons, List.map_nil, hs, hx, hrun]
  refine hK' _ _ (hK v' w' ?_ h3 h5)
  show w'.ownsRow base 38 2 v' (l ++ [a0]).length (flat (l ++ [a0]))
  rw [List.length_append, flat_append]
  exact h2
theorem smem_kept {w' : World} {n : Nat} {L : List Bs} {row : Option Nat} (h : StrMem w A n L) (hg : w.grownBy w' row) (hr : 0 < n → ∀ k, A.map (·.block) = some k → row ≠ some k) : StrMem w' A n L :=
  ⟨h.1, h.2.1, fun hn => by
    obtain ⟨b, off, rfl, hb, hc⟩ := h.2.2 hn
    refine ⟨b, off, rfl, Nat.lt_of_lt_of_le hb hg.size, fun j x hj => ?_⟩
    exact (World.cell?_of_block (a := ⟨b, off + j, none⟩) (hg.block b hb (fun e => hr hn b rfl e.symm))).trans (hc j x hj)⟩
end
theorem own_slice (B : Option Addr) (k q : Nat) : (Value.slice B k q).ownBlock = B.map (·.block) := by cases B <;> rfl
/-- In the first block, or in late ones. -/
def Lies (b0 b1 : Nat) (B : Option Addr) : Prop := ∀ z, B.map (·.block) = some z → z = b0 ∨ b1 ≤ z
theorem aown_empty2 (w : World) : AOwn (w.alloc (.cells #[] 38)) w.heap.size (.slice (some ⟨w.heap.size, 0, none⟩) 0 0) [] :=
  ⟨rfl, .inr ⟨w.heap.size, 0, #[], rfl, Nat.le_refl _, Blk.new w #[] 38, Nat.le_refl _, Nat.zero_le _, rfl, rfl⟩⟩
set_option maxHeartbeats 8000000 in
theorem rprogram_is {s : Bs} {e0 : Int} {p : List Ac} (h : linP s = (e0, p)) (hs : s.length ≤ 100000) (w : World) :
    Calls Tryd.prog 24 #[.string (bs s)] w fun e w' => (∃ x : PV, e = .returned (.tuple #[.slice x.A x.n x.c, .int .i64 e0]) ∧ GotP w.heap.size w' p x) ∧ Gr w w' := by
  unfold linP at h
  by_cases hn : s = []
  · rw [if_pos hn] at h
    cases h
    have hY : (bs s).toList.isEmpty = true := by rw [ByteArray.toList_eq, bs_list, hn]; rfl
    clear hn
    go_enter Tryd.func24, Tryd.ntmps24
    go_wp2_with fail
    go_ret2
    exact ⟨⟨⟨some ⟨w.heap.size, 0, none⟩, 0, 0, []⟩, rfl, got_empty (Nat.le_refl _)⟩, (Gr.refl w).al _⟩
  rw [if_neg hn] at h
  have hY : (bs s).toList.isEmpty = false := by rw [ByteArray.toList_eq, bs_list]; simpa using hn
  have hlen := spl_len s []
  have cpc := fun W => Lib.hid (rpieces_is hs W)
  obtain ⟨L, hL⟩ : ∃ L, spl [] s = L := ⟨_, rfl⟩
  rw [hL] at h hlen
  simp only [hL] at cpc
  have HLL := Lib.hid hlen
  obtain ⟨N, hN⟩ : ∃ N, L.length = N := ⟨_, rfl⟩
  have HN := Lib.hid hN
  simp only [hN] at cpc
  have HP := Lib.hid (show comb [] (pcsP 0 (L.drop 0)) = (e0, p) by rw [comb_nil]; exact h)
  have HO0 := Lib.hid (aown_empty2 w)
  have HG0 := Lib.hid ((Gr.refl w).al (.cells #[] 38))
  clear h hn hL hlen hN
  go_enter Tryd.func24, Tryd.ntmps24
  go_wp2_with fail
  with_reducible refine (cpc _).out.mono ?_
  rintro e w1 ⟨⟨A, c, rfl, hm1, hla⟩, hb1⟩
  have HLA := Lib.hid (show ∀ z, A.map (·.block) = some z → w.heap.size + 1 ≤ z ∧ (0 < N → z < w1.heap.size) from fun z hz => by
    have h1 := hla z hz
    rw [World.size_alloc] at h1
    refine ⟨h1, fun hN => ?_⟩
    obtain ⟨b, off, rfl, hb, _⟩ := hm1.2.2 hN
    simp at hz
    omega)
  have HM1 := Lib.hid hm1
  have HO1 := Lib.hid (HO0.out.gr hb1)
  have HG1 := Lib.hid (HG0.out.trans hb1)
  have hs1 := hb1.size
  have HB0 := Lib.hid (show Lies w.heap.size w1.heap.size (some ⟨w.heap.size, 0, none⟩) from fun z hz => .inl (by simpa using hz.symm))
  clear cpc HO0 HG0 hb1 hm1 hla
  go_wp2_with fail
  go_loopw [4, 16] (fun v i wr => ∃ (k : Nat) (out : List Ac) (B : Option Addr) (q : Nat), k ≤ N ∧ k ≤ 64 ∧ out.length = k ∧ i = .int .i64 k ∧ v = .slice B k q ∧ Hid (AOwn wr w.heap.size (.slice B k q) out) ∧ Hid (∀ x ∈ out, Inb x.1 ∧ Inb x.2) ∧ Hid (comb out (pcsP k (L.drop k)) = (e0, p)) ∧ Hid (Gr w wr) ∧ Hid (Lies w.heap.size w1.heap.size B) ∧ Hid (StrMem wr A N L) ∧ w1.heap.size ≤ wr.heap.size) (fun _ i _ => N - (intOf i).toNat)
  case atStart => exact ⟨0, [], _, 0, Nat.zero_le _, by omega, rfl, rfl, rfl, HO1, Lib.hid (by simp), HP, HG1, HB0, HM1, Nat.le_refl _⟩
  case round =>
    obtain ⟨k, out, B, q, hk, hk64, hout, rfl, rfl, HO, HI, HC, HG, HLB, HMR, hsr⟩ := hrel
    by_cases hlt : k < N
    · obtain ⟨b, off, t, rfl, hbl, ht, htl, c0⟩ := HMR.out.at_ hlt
      have i0 : (0 : Int) ≤ (k : Int) := by omega
      have i1 : (k : Int) < (N : Int) := by omega
      by_cases h64 : 64 ≤ k
      · have hr := pcsP_full (out := out) (show k < L.length by rw [HN.out]; exact hlt) h64
        rw [HC.out] at hr
        cases hr
        have k64 : ((k : Int) == 64) = true := by
          obtain rfl : k = 64 := by omega
          rfl
        clear ht HC HP HO HI hout
        go_wp2_with fail
        go_ret2
        exact ⟨⟨⟨none, 0, 0, []⟩, rfl, got_none⟩, HG.out⟩
      · obtain ⟨e1, a⟩ : ∃ e1 a, actP t = (e1, a) := ⟨_, _, rfl⟩
        obtain ⟨a, ha⟩ := a
        have htl2 : t.length ≤ 1000000 := by
          have := HLL.out t (List.mem_of_getElem? ht)
          simp at this
          omega
        have c2 := fun W => Lib.hid (ract_is ha htl2 W)
        have k64 : ((k : Int) == 64) = false := by
          simp only [beq_eq_false_iff_ne, ne_eq]
          omega
        by_cases he : e1 = 0
        · subst he
          have hstep := pcsP_step (out := out) ht (by omega) (by rw [ha])
          rw [HC.out, ha] at hstep
          have hok : okA a = true := by have := actP_ok (s := t) (by rw [ha]); rw [ha] at this; exact this.1
          have HST := Lib.hid hstep.symm
          have hia := okA_inb hok
          clear hstep ht ha hok HC HP htl
          go_wp2_with fail
          with_reducible refine (c2 _).out.mono ?_
          rintro e w2 ⟨rfl, hb2⟩
          have g2 := ((Gr.refl w2).al (.cells #[.int .i64 a.1, .int .i64 a.2] 38)).al (.cells #[.int .i64 a.1, .int .i64 a.2] 38)
          have HM := Lib.hid (mem_one (blk_new2 w2 (.cells #[.int .i64 a.1, .int .i64 a.2] 38) #[.int .i64 a.1, .int .i64 a.2] 38) hia)
          have HO2 := Lib.hid ((HO.out.gr hb2).gr g2)
          have HG2 := Lib.hid ((HG.out.trans hb2).trans g2)
          have hb := HG2.out.size
          have HM2 := Lib.hid ((HMR.out.gr hb2).gr g2)
          have hsz2 : w1.heap.size ≤ ((w2.alloc (.cells #[.int .i64 a.1, .int .i64 a.2] 38)).alloc (.cells #[.int .i64 a.1, .int .i64 a.2] 38)).heap.size := Nat.le_trans hsr (Nat.le_trans hb2.size g2.size)
          clear c2 g2 hb2 HMR
          go_wp2_with (at_builtin; refine Mark.stop ?_)
          refine Mark.go ?_
          refine wpList_append_act (l := out) rfl (.tmp 31) (.tmp 33) rfl rfl rfl HO2.out HM.out (by omega) hb ?_
          intro v' w3 h1 h2 h3
          have hall : ∀ x ∈ out ++ [a], Inb x.1 ∧ Inb x.2 := by
            intro x hx
            rcases List.mem_append.1 hx with hx | hx
            · exact HI.out x hx
            · rw [List.mem_singleton] at hx; subst hx; exact hia
          obtain ⟨B', q', rfl, -, -, -, -⟩ := own_mem h1 hall
          have HA := Lib.hid hall
          have hlen : (out ++ [a]).length = k + 1 := by simp [hout]
          rw [hlen] at h1 h3 ⊢
          have H1 := Lib.hid h1
          have hrow : ∀ z, (Value.slice B k q).ownBlock = some z → z = w.heap.size ∨ w1.heap.size ≤ z := fun z hz => HLB.out z ((own_slice B k q).symm.trans hz)
          have H2 := Lib.hid (HG2.out.gb h2 (fun j hj => HO2.out.late hj))
          have HM3 := Lib.hid (smem_kept HM2.out h2 (fun hN z hz e => by
            have e1 := HLA.out z hz
            have e2 := e1.2 hN
            rcases hrow z e with h | h <;> omega))
          have HLB3 := Lib.hid (show Lies w.heap.size w1.heap.size B' from fun z hz => by
            have hz' : (Value.slice B' (k + 1) q').ownBlock = some z := (own_slice B' (k + 1) q').trans hz
            rcases h3 with h3 | h3
            · exact hrow z (h3.symm.trans hz')
            · rw [hz'] at h3
              have := Option.some.inj h3
              omega)
          have hs3 : w1.heap.size ≤ w3.heap.size := Nat.le_trans hsz2 h2.size
          clear h1 h2 h3 hall HI HM HO HO2 hrow HM2 HLB hsz2 hb
          go_wp2_with fail
          go_roundw
          case rel => exact ⟨k + 1, out ++ [a], B', q', by omega, by omega, hlen, by go_num, rfl, H1, HA, HST, H2, HLB3, HM3, hs3⟩
          case measure => simp [intOf]; omega
        · have hstep := pcsP_bad (out := out) ht (by omega) (by rw [ha]; exact he)
          rw [HC.out, ha] at hstep
          cases hstep
          have hne : (e1 == 0) = false := by simpa using he
          have hne' : (e1 != 0) = true := by simpa using he
          clear ht ha HC HP HO HI he htl
          go_wp2_with fail
          with_reducible refine (c2 _).out.mono ?_
          rintro e w2 ⟨rfl, hb2⟩
          have HGF := Lib.hid ((HG.out.trans hb2).al (.cells #[.int .i64 a.1, .int .i64 a.2] 38))
          clear c2
          go_wp2_with fail
          go_ret2
          exact ⟨⟨⟨none, 0, 0, []⟩, rfl, got_none⟩, HGF.out⟩
    · obtain rfl : k = N := by omega
      have hend := HC.out
      rw [← HN.out, pcsP_end] at hend
      cases hend
      have h1 := HO.out
      rw [← hout] at h1
      obtain ⟨B', q', hv, hm2, hq, hq2, hlate⟩ := own_mem h1 HI.out
      cases hv
      rw [hout] at hm2 hq
      have HF := Lib.hid (show GotP w.heap.size wr p ⟨B, k, q, p⟩ from ⟨⟨hm2, hq, hq2⟩, rfl, hlate⟩)
      clear h1 hm2 HC HO HI HP
      go_wp2_with fail
      go_ret2
      exact ⟨⟨⟨B, k, q, p⟩, rfl, HF.out⟩, HG.out⟩
end P12
end Go.Proofs.YtocojdiapaeajaaDoor
