/-
  Package root: grown; find.
-/
import Derived.Test.YtmkkeknimpjfoaaRootOwn
import Derived.Test.YtmkkeknimpjfoaaTreapPut
import Derived.Test.YtmkkeknimpjfoaaTreapNext
import Derived.Test.YtmkkeknimpjfoaaTreapKeys
namespace Go.Proofs.Ytmkkeknimpjfoaa
open Go.ChangeShapes Go.WideShapes Go.ChangeAt Go.RowKit
set_option linter.unusedVariables false
set_option linter.unusedSimpArgs false

theorem good_nil : Good [] (-1) .nil := ⟨rfl, rfl, by simp, trivial, trivial⟩
/-- A tree in a variable: its block, its nodes, what it holds. -/
def Holds (base : Nat) (w : World) (tb : Nat) (K : List Int) : Prop :=
  ∃ r A n c l t, Blk w tb #[.int .i64 r, .slice A n c] 84 ∧ NMem w A n l ∧ Good l r t ∧ t.inord = K ∧ ∀ k, A.map (·.block) = some k → base < k ∧ k ≠ tb
theorem Holds.gr {base : Nat} {w w' : World} {tb : Nat} {K : List Int} (h : Holds base w tb K) (g : Gr w w') : Holds base w' tb K := by
  obtain ⟨r, A, n, c, l, t, h1, h2, h3, h4, h5⟩ := h
  exact ⟨r, A, n, c, l, t, h1.gr g, h2.gr g, h3, h4, h5⟩
theorem und_new {L : List SV} {k : Nat} {x : SV} (h : TOk L) (hx : L[k]? = some x) : x.addr ∉ und (L.take k) (rt x.addr) := fun hm => by
  obtain ⟨y, hy, e, _⟩ := mem_und.1 hm
  obtain ⟨j, hj⟩ := List.mem_iff_getElem?.1 hy
  rw [List.getElem?_take] at hj
  split at hj
  · have := h.at_ (by assumption) hj hx
    rw [e] at this
    exact this.irrefl
  · cases hj
section
variable {w : World} {A : Option Addr} {n c : Nat} {L : List SV}
set_option maxHeartbeats 8000000 in
theorem grown_is (hm : SMem w A n L) (ht : Tab L) (r : Int) :
    Calls Try.prog 54 #[.slice A n c, .int .i64 r] w fun e w' =>
      ∃ r' A' n' c' l t, e = .returned (.agg #[.int .i64 r', .slice A' n' c']) ∧ NMem w' A' n' l ∧ Good l r' t ∧ t.inord = und L r ∧ Gr w w' := by
  have hlen := hm.1
  have HM := Lib.hid hm
  have HT := Lib.hid ht
  have hn : n ≤ 64 := by have := ht.1; omega
  have g0 := (Gr.refl w).al (.cells #[.int .i64 0, .slice none 0 0] 84)
  have B0 := Blk.new w #[.int .i64 0, .slice none 0 0] 84
  clear hm ht
  go_enter Try.func54, Try.ntmps54
  go_wp2_with fail
  with_reducible refine (New_is _).mono ?_
  rintro e w1 ⟨rfl, hb1⟩
  have G1 := g0.trans hb1
  have BR := B0.gr hb1
  have BT := Blk.new w1 #[.int .i64 (-1), .slice none 0 0] 84
  have HH := Lib.hid (show Holds w.heap.size (w1.alloc (.cells #[.int .i64 (-1), .slice none 0 0] 84)) w1.heap.size (und (L.take 0) r) from ⟨-1, none, 0, 0, [], .nil, BT, NMem.nil_, good_nil, by simp [und, T.inord], fun k hk => by cases hk⟩)
  have HG := Lib.hid (G1.al (.cells #[.int .i64 (-1), .slice none 0 0] 84))
  have HR := Lib.hid (BR.al (.cells #[.int .i64 (-1), .slice none 0 0] 84))
  have hlt := BR.lt
  have hw := G1.size
  clear g0 B0 hb1 G1 BR BT
  obtain ⟨tb, htb⟩ : ∃ tb, w1.heap.size = tb := ⟨_, rfl⟩
  have hge : w.heap.size < tb := by omega
  go_wp2_with fail
  rw [htb] at HH
  clear htb hlt hw
  go_loopw [13] (fun i wr => ∃ k : Nat, k ≤ n ∧ i = .int .i64 (k : Int) ∧ Hid (Holds w.heap.size wr tb (und (L.take k) r)) ∧ Hid (Gr w wr) ∧ Hid (Blk wr w.heap.size #[.int .i64 0, .slice none 0 0] 84)) (fun i _ => n - (intOf i).toNat)
  case atStart => exact ⟨0, Nat.zero_le _, rfl, HH, HG, HR⟩
  case round =>
    clear HH HG HR
    obtain ⟨k, hk, rfl, HH, HG, HR⟩ := hrel
    by_cases hlt : k < n
    · obtain ⟨b, off, x, rfl, hbl, hx, hok, d0, d1, d2⟩ := (HM.out.gr HG.out).at_ hlt
      have HX := Lib.hid hx
      have k0 : (0 : Int) ≤ (k : Int) := by omega
      have k1 : (k : Int) < (n : Int) := by omega
      have hkey := Tab.key HT.out.2 (List.mem_of_getElem? hx)
      have C1 := Lib.hid (fun W => Root_is x.addr W)
      rw [rf_key hkey, re_key hkey] at C1
      have hak := Lib.hid hkey
      have g1 := Lib.hid ((Gr.refl wr).al (.cells #[.int .i64 x.addr, .int .i64 x.cnt, .slice x.A x.n x.c] 46))
      have BX := Blk.new wr #[.int .i64 x.addr, .int .i64 x.cnt, .slice x.A x.n x.c] 46
      have HBX := Lib.hid BX
      clear hx hok hkey
      go_wp2_with fail
      with_reducible refine (C1.out _).mono ?_
      rintro e w2 ⟨rfl, rfl⟩
      by_cases hr : rt x.addr = r
      · subst hr
        obtain ⟨r0, A0, n0, c0, l0, t0, HB0, HN0, HG0, HI0, HA0⟩ := HH.out.gr g1.out
        have hu : Hid (und (L.take (k + 1)) (rt x.addr) = und (L.take k) (rt x.addr) ++ [x.addr]) := Lib.hid (by rw [take_snoc HX.out, und_snoc_hit rfl])
        have hnew : x.addr ∉ t0.inord := by rw [HI0]; exact und_new HT.out.2 HX.out
        have h64 : l0.length ≠ 64 := by
          have e1 : t0.inord.length = l0.length := by rw [T.inord_len, HG0.2.1]
          have e2 := und_len (L.take k) (rt x.addr)
          rw [← HI0, List.length_take] at e2
          omega
        have hC := Lib.hid (Put_ok (c := c0) HN0 HG0 hak.out hnew h64)
        have HI := Lib.hid HI0
        have HBB := Lib.hid HB0
        have G2 := Lib.hid (HG.out.trans g1.out)
        have R2 := Lib.hid (HR.out.gr g1.out)
        have f0 := (HB0.at_ (k := 0) rfl).1
        have f1 := (HB0.at_ (k := 1) rfl).1
        have htl := HB0.lt
        have s1 := hnew
        clear C1 HB0 HN0 HG0 HI0 HA0 hnew h64 s1 HH
        have bx0 := (BX.at_ (k := 0) rfl).1
        clear BX
        go_wp2_with fail
        with_reducible refine hC.out.mono ?_
        rintro e w3 ⟨r3, g3, l3, t3, rfl, hm3, hg3, hk3, hb3, hge3⟩
        have BT3 := HBB.out.gr hb3
        obtain ⟨p0, z0⟩ := BT3.at_ (k := 0) rfl
        obtain ⟨p1, z1⟩ := BT3.at_ (k := 1) rfl
        have hne3 : g3 ≠ tb := by omega
        have hi3 : t3.inord = und (L.take (k + 1)) (rt x.addr) := by
          refine rising_ext hg3.2.2.2.1.rising (und_rising (HT.out.2.take _) _) fun y => ?_
          rw [hk3 y, hu.out, List.mem_append, List.mem_singleton, HI.out]
          exact ⟨fun h => h.symm, fun h => h.symm⟩
        have H3 := Lib.hid (show Holds w.heap.size ((w3.setCell ⟨tb, 0, none⟩ (.int .i64 r3)).setCell ⟨tb, 1, none⟩ (.slice (some ⟨g3, 0, none⟩) (n0 + 1) (n0 + 1))) tb (und (L.take (k + 1)) (rt x.addr)) from
          ⟨r3, some ⟨g3, 0, none⟩, n0 + 1, n0 + 1, l3, t3, (BT3.set 0 (.int .i64 r3)).set 1 (.slice (some ⟨g3, 0, none⟩) (n0 + 1) (n0 + 1)), hm3.stays (by simp [World.setCell]) (fun k hk _ => by
            cases hk
            exact (Below.heap_setCell _ ⟨tb, 1, none⟩ _ g3 hne3).trans (Below.heap_setCell _ ⟨tb, 0, none⟩ _ g3 hne3)), hg3, hi3, fun k hk => by cases hk; exact ⟨show w.heap.size < g3 by omega, hne3⟩⟩)
        have G3 := Lib.hid (((G2.out.trans hb3).st (p := ⟨tb, 0, none⟩) (by show w.heap.size ≤ tb; omega) (.int .i64 r3)).st (p := ⟨tb, 1, none⟩) (by show w.heap.size ≤ tb; omega) (.slice (some ⟨g3, 0, none⟩) (n0 + 1) (n0 + 1)))
        have R3 := Lib.hid (((R2.out.gr hb3).st (p := ⟨tb, 0, none⟩) (by show tb ≠ w.heap.size; omega) (.int .i64 r3)).st (p := ⟨tb, 1, none⟩) (by show tb ≠ w.heap.size; omega) (.slice (some ⟨g3, 0, none⟩) (n0 + 1) (n0 + 1)))
        clear hm3 hg3 hk3 hb3 hge3 BT3 hi3 hC HBB G2 R2 f0 f1 bx0
        go_wp2_with fail
        go_roundw
        case rel => exact ⟨k + 1, by omega, by go_num, H3, G3, R3⟩
        case measure => simp [intOf]; omega
      · have hne : (rt x.addr == r) = false := beq_eq_false_iff_ne.2 hr
        have hu : Hid (und (L.take (k + 1)) r = und (L.take k) r) := Lib.hid (by rw [take_snoc HX.out, und_snoc_miss hr])
        have H2 := Lib.hid (HH.out.gr g1.out)
        have G2 := Lib.hid (HG.out.trans g1.out)
        have R2 := Lib.hid (HR.out.gr g1.out)
        clear BX C1
        go_wp2_with fail
        go_roundw
        case rel => exact ⟨k + 1, by omega, by go_num, Lib.hid (by rw [hu.out]; exact H2.out), G2, R2⟩
        case measure => simp [intOf]; omega
    · obtain rfl : k = n := by omega
      obtain ⟨r0, A0, n0, c0, l0, t0, HB0, HN0, HG0, HI0, HA0⟩ := HH.out
      rw [← hlen, List.take_length] at HI0
      have f0 := (HB0.at_ (k := 0) rfl).1
      have f1 := (HB0.at_ (k := 1) rfl).1
      have BR := HR.out
      obtain ⟨p0, z0⟩ := BR.at_ (k := 0) rfl
      obtain ⟨p1, z1⟩ := BR.at_ (k := 1) rfl
      have HBF := Lib.hid ((BR.set 0 (.int .i64 r0)).set 1 (.slice A0 n0 c0))
      have HGF := Lib.hid ((HG.out.st (p := ⟨w.heap.size, 0, none⟩) (Nat.le_refl _) (.int .i64 r0)).st (p := ⟨w.heap.size, 1, none⟩) (Nat.le_refl _) (.slice A0 n0 c0))
      have HNF := Lib.hid (show NMem ((wr.setCell ⟨w.heap.size, 0, none⟩ (.int .i64 r0)).setCell ⟨w.heap.size, 1, none⟩ (.slice A0 n0 c0)) A0 n0 l0 from HN0.stays (by simp [World.setCell]) (fun k hk _ => by
        have hne := (HA0 k hk).1
        exact (Below.heap_setCell _ ⟨w.heap.size, 1, none⟩ _ k (by show k ≠ w.heap.size; omega)).trans (Below.heap_setCell _ ⟨w.heap.size, 0, none⟩ _ k (by show k ≠ w.heap.size; omega))))
      have HGG := Lib.hid HG0
      have HII := Lib.hid HI0
      clear HN0 HG0 HI0 BR HH HG HB0 HR HA0
      go_wp2_with fail
      have BF := HBF.out
      have GF := HGF.out
      have NF := HNF.out
      clear f0 f1 p0 z0 p1 z1 HBF HGF HNF
      generalize (wr.setCell _ _).setCell _ _ = WF at BF GF NF ⊢
      have q0 : WF.cell? ⟨w.heap.size, 0, none⟩ = some (.int .i64 r0) := (BF.at_ (k := 0) rfl).1
      have q1 : WF.cell? ⟨w.heap.size, 1, none⟩ = some (.slice A0 n0 c0) := (BF.at_ (k := 1) rfl).1
      exact bodyPost_ret (v := .agg #[.int .i64 r0, .slice A0 n0 c0]) (by simp [results, Try.results54, go_sem, q0, q1]) rfl ⟨r0, A0, n0, c0, l0, t0, rfl, NF, HGG.out, HII.out, GF⟩

/-- What find answers: where an address's spot stands, or would, and whether it is there. -/
theorem find_at {L : List SV} {a d : Int} {k : Nat} {x : SV} (h : TOk L) (hf : (und L (rt a)).find? (fun q => decide (a ≤ q)) = some d) (hx : L[k]? = some x) (hd : x.addr = d) (hk : ∀ j y, j < k → L[j]? = some y → y.addr ≠ d ∧ rt y.addr ≤ rt a) :
    plc L a = k ∧ (d = a ↔ Has L a) := by
  have h1 := List.find?_some hf
  rw [decide_eq_true_eq] at h1
  have hdm := List.mem_of_find?_eq_some hf
  obtain ⟨z, hz, hz1, hz2⟩ := mem_und.1 hdm
  have hfirst : ∀ q, q ∈ und L (rt a) → a ≤ q → d ≤ q := by
    have hr := und_rising h (rt a)
    intro q hq haq
    obtain ⟨u, v, huv, hnone⟩ := List.find?_eq_some_iff_append.1 hf |>.2
    rw [huv] at hq hr
    rcases List.mem_append.1 hq with hq | hq
    · have := hnone q hq
      simp at this
      omega
    · rcases List.mem_cons.1 hq with e | hq
      · omega
      · unfold Rising at hr
        rw [List.pairwise_append] at hr
        have := (List.pairwise_cons.1 hr.2.1).1 q hq
        omega
  have hp : plc L a = k := plc_at h hx (fun hc => by rw [hd] at hc; unfold Lt at hc; omega) fun p y hp hy => by
    obtain ⟨e1, e2⟩ := hk p y (by omega) hy
    have e3 := h.at_ (show p < k by omega) hy hx
    unfold Lt at e3 ⊢
    rw [hd] at e3
    by_cases hq : rt y.addr = rt a
    · have : y.addr ∈ und L (rt a) := mem_und.2 ⟨y, List.mem_of_getElem? hy, rfl, hq⟩
      have := hfirst y.addr this
      omega
    · omega
  refine ⟨hp, ?_⟩
  rw [has_iff h, hp]
  constructor
  · intro e; exact ⟨x, hx, hd.trans e⟩
  · rintro ⟨y, hy, e⟩
    rw [hx] at hy; cases hy
    exact hd.symm.trans e
theorem find_far {L : List SV} {a : Int} {k : Nat} {x : SV} (h : TOk L) (hx : L[k]? = some x) (hr : rt a < rt x.addr) (hk : ∀ j y, j < k → L[j]? = some y → rt y.addr ≤ rt a)
    (hn : ∀ d, (und L (rt a)).find? (fun q => decide (a ≤ q)) = some d → ∀ j y, j < k → L[j]? = some y → y.addr ≠ d) : plc L a = k ∧ ¬ Has L a := by
  have hnone : ∀ j y, j < k → L[j]? = some y → Lt y.addr a := by
    intro j y hj hy
    have h1 := hk j y hj hy
    unfold Lt
    by_cases hq : rt y.addr = rt a
    · refine .inr ⟨hq, ?_⟩
      apply Classical.byContradiction
      intro hc
      have hm : y.addr ∈ und L (rt a) := mem_und.2 ⟨y, List.mem_of_getElem? hy, rfl, hq⟩
      cases hf : (und L (rt a)).find? (fun q => decide (a ≤ q)) with
      | none =>
        have := List.find?_eq_none.1 hf y.addr hm
        simp at this
        omega
      | some d =>
        have hdm := List.mem_of_find?_eq_some hf
        obtain ⟨z, hz, hz1, hz2⟩ := mem_und.1 hdm
        obtain ⟨i, hi⟩ := List.mem_iff_getElem?.1 hz
        have hik : i < k := by
          rcases Nat.lt_trichotomy i k with g | g | g
          · exact g
          · subst g; rw [hx] at hi; cases hi; rw [hz1] at hr; omega
          · have := h.at_ g hx hi
            unfold Lt at this
            rw [hz1] at this
            omega
        exact hn d hf i z hik hi hz1
    · omega
  have hp : plc L a = k := plc_at h hx (fun hc => by unfold Lt at hc; omega) fun p y hp hy => hnone p y (by omega) hy
  refine ⟨hp, fun hh => ?_⟩
  obtain ⟨y, hy, e⟩ := (has_iff h a).1 hh
  rw [hp, hx] at hy
  cases hy
  rw [e] at hr
  omega
theorem find_end {L : List SV} {a : Int} (h : TOk L) (hk : ∀ y ∈ L, rt y.addr ≤ rt a)
    (hn : ∀ d, (und L (rt a)).find? (fun q => decide (a ≤ q)) = some d → ∀ y ∈ L, y.addr ≠ d) : plc L a = L.length ∧ ¬ Has L a := by
  have hnone : ∀ y ∈ L, Lt y.addr a := by
    intro y hy
    have h1 := hk y hy
    unfold Lt
    by_cases hq : rt y.addr = rt a
    · refine .inr ⟨hq, ?_⟩
      apply Classical.byContradiction
      intro hc
      have hm : y.addr ∈ und L (rt a) := mem_und.2 ⟨y, hy, rfl, hq⟩
      cases hf : (und L (rt a)).find? (fun q => decide (a ≤ q)) with
      | none =>
        have := List.find?_eq_none.1 hf y.addr hm
        simp at this
        omega
      | some d =>
        have hdm := List.mem_of_find?_eq_some hf
        obtain ⟨z, hz, hz1, hz2⟩ := mem_und.1 hdm
        exact hn d hf z hz hz1
    · omega
  refine ⟨plc_end h hnone, ?_⟩
  rintro ⟨y, hy, rfl⟩
  exact (hnone y hy).irrefl
end
end Go.Proofs.Ytmkkeknimpjfoaa
