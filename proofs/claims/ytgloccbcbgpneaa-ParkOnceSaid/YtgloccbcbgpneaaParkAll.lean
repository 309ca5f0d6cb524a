/-
  Package park: Park, Ready, End, Runnable.
-/
import Derived.Test.YtgloccbcbgpneaaParkFn
import Derived.Shelf.Abstract
import Derived.FnLit
namespace Go.Proofs.Ytgloccbcbgpneaa
open Go.ChangeShapes Go.WideShapes Go.ChangeAt Go.RowKit
set_option linter.unusedVariables false
namespace P11

theorem b64_pk {x : G} (h : B64 x.1) : B64 (pkG x).2.1 := by
  unfold pkG
  split
  · simp only; split <;> exact ⟨by decide, by decide⟩
  · exact h
theorem b64_rd {x : G} (h : B64 x.1) : B64 (rdG x).2.1 := by
  unfold rdG
  split
  · exact h
  · split
    · exact h
    · exact (show B64 0 from ⟨by decide, by decide⟩)
theorem b64_en {x : G} (h : B64 x.1) : B64 (enG x).2.1 := by
  unfold enG
  split
  · exact ⟨by decide, by decide⟩
  · exact h
theorem err_pk (x : G) : (pkG x).1 = 0 ∨ (pkG x).1 = 6 ∨ (pkG x).1 = 7 := by
  unfold pkG; split <;> simp
theorem err_rd (x : G) : (rdG x).1 = 0 ∨ (rdG x).1 = 6 ∨ (rdG x).1 = 7 := by
  unfold rdG; split
  · simp
  · split <;> simp
theorem err_en (x : G) : (enG x).1 = 0 ∨ (enG x).1 = 6 ∨ (enG x).1 = 7 := by
  unfold enG; split <;> simp
theorem b64_set {l : List G} {k : Nat} {y : G} (h : ∀ x ∈ l, B64 x.1) (hy : B64 y.1) : ∀ x ∈ l.set k y, B64 x.1 := by
  intro x hx
  rcases List.mem_or_eq_of_mem_set hx with h1 | rfl
  · exact h x h1
  · exact hy
theorem got_yes {w w' : World} {g k n : Nat} {l : List G} {y : G} (hn : l.length = n) (hl : w.heap.size ≤ g) (hb : ∀ x ∈ l.set k y, B64 x.1) (h : ∃ vs, Blk w' g vs 40 ∧ vs.toList = flat (l.set k y)) (G1 : Gr w w') :
    Got w (0, l.set k y) (.returned (.tuple #[.slice (some ⟨g, 0, none⟩) n n, .int .i64 0])) w' := by
  subst hn
  obtain ⟨vs, h1, h2⟩ := h
  have e : (l.set k y).length = l.length := List.length_set
  refine ⟨_, l.length, ?_, GMem.of_blk h1 h2 hb, (fun k hk => by cases hk; exact hl), Nat.le_of_eq e, G1⟩
  rw [e]

section
variable {A : Option Addr} {n c : Nat} {l : List G} {who : Int}
set_option maxHeartbeats 2000000 in
theorem Park_is (hn : n ≤ 9223372036854775807) (w : World) (hm : GMem w A n l) :
    Calls Try.prog 8 #[.slice A n c, .int .i64 who] w (Got w (outc pkG l who)) := by
  have hmf : ∀ (fn : Fn) (first cap : Array Value) (w : World), (Instr.makeFunc fn first cap).run Try.prog w = .ok (.func fn first cap) w := fun _ _ _ _ => rfl
  have hl := hm.1
  by_cases hr : rightB l = true
  · by_cases hw : who < 0 ∨ n ≤ who
    · rw [outc_range hr (by rw [hl]; exact hw)]
      have c1 := Lib.hid (choose_range (c := c) hn hr hw hm)
      clear hm hr hw
      go_enter Try.func8, Try.ntmps8
      go_wp2_with fail
      with_reducible refine c1.out.mono ?_
      rintro e w1 ⟨cp, rfl, hcp, hB, g1⟩
      have c2 := fun f => Lib.hid (after_no (f := f) (.inr rfl) hB)
      go_wp2_with fail
      with_reducible refine (c2 _).out.mono ?_
      rintro e w2 ⟨rfl, g2⟩
      go_wp2_with fail
      go_ret2
      exact got_err 3 (g1.trans g2)
    · obtain ⟨k, rfl⟩ : ∃ k : Nat, who = (k : Int) := ⟨who.toNat, by omega⟩
      have hk : k < n := by omega
      obtain ⟨x, hx⟩ : ∃ x, l[k]? = some x := ⟨_, List.getElem?_eq_getElem (by omega)⟩
      rw [outc_at hr hx]
      have hbx := hm.2.1 x (List.mem_of_getElem? hx)
      have HB := Lib.hid hm.2.1
      have HX := Lib.hid hx
      have c1 := Lib.hid (choose_ok (c := c) hn hr hk hm)
      obtain ⟨⟨q, y⟩, hp⟩ : ∃ r, pkG x = r := ⟨_, rfl⟩
      have hy := b64_pk hbx
      have hq := err_pk x
      rw [hp] at hy hq ⊢
      have HP := Lib.hid hp
      clear hm hr hw hx hp
      rcases hq with hq | hq
      · obtain rfl : q = 0 := hq
        rw [if_pos rfl]
        go_enter Try.func8, Try.ntmps8
        go_wp2_with fail
        with_reducible refine c1.out.mono ?_
        rintro e w1 ⟨cp, g, rfl, hcp, hg, hC, g1⟩
        have c2 := Lib.hid (after_yes (enters_of Try.func25 (by kernel_rfl) rfl) park_is hC HX.out hg HP.out)
        rw [hl] at c2
        clear hC
        go_wp2_with fail
        with_reducible refine c2.out.mono ?_
        rintro e w2 ⟨rfl, g2, hv⟩
        have HV := Lib.hid hv
        clear hv
        go_wp2_with fail
        go_ret2
        exact got_yes hl hg (b64_set HB.out hy) HV.out (g1.trans' g2)
      · rw [if_neg (by show q ≠ 0; omega)]
        go_enter Try.func8, Try.ntmps8
        go_wp2_with fail
        with_reducible refine c1.out.mono ?_
        rintro e w1 ⟨cp, g, rfl, hcp, hg, hC, g1⟩
        have c2 := Lib.hid (after_err (enters_of Try.func25 (by kernel_rfl) rfl) park_is hC HX.out hg (by rw [HP.out]) hq)
        clear hC
        go_wp2_with fail
        with_reducible refine c2.out.mono ?_
        rintro e w2 ⟨rfl, g2⟩
        go_wp2_with fail
        go_ret2
        exact got_err q (g1.trans' g2)
  · have hr0 : rightB l = false := by simpa using hr
    rw [outc_arg hr0]
    have c1 := Lib.hid (choose_arg (c := c) (who := who) hn hr0 hm)
    clear hm hr hr0
    go_enter Try.func8, Try.ntmps8
    go_wp2_with fail
    with_reducible refine c1.out.mono ?_
    rintro e w1 ⟨cp, rfl, hcp, hB, g1⟩
    have c2 := fun f => Lib.hid (after_no (f := f) (.inl rfl) hB)
    go_wp2_with fail
    with_reducible refine (c2 _).out.mono ?_
    rintro e w2 ⟨rfl, g2⟩
    go_wp2_with fail
    go_ret2
    exact got_err 1 (g1.trans g2)
end

section
variable {A : Option Addr} {n c : Nat} {l : List G} {who : Int}
set_option maxHeartbeats 2000000 in
theorem Ready_is (hn : n ≤ 9223372036854775807) (w : World) (hm : GMem w A n l) :
    Calls Try.prog 9 #[.slice A n c, .int .i64 who] w (Got w (outc rdG l who)) := by
  have hmf : ∀ (fn : Fn) (first cap : Array Value) (w : World), (Instr.makeFunc fn first cap).run Try.prog w = .ok (.func fn first cap) w := fun _ _ _ _ => rfl
  have hl := hm.1
  by_cases hr : rightB l = true
  · by_cases hw : who < 0 ∨ n ≤ who
    · rw [outc_range hr (by rw [hl]; exact hw)]
      have c1 := Lib.hid (choose_range (c := c) hn hr hw hm)
      clear hm hr hw
      go_enter Try.func9, Try.ntmps9
      go_wp2_with fail
      with_reducible refine c1.out.mono ?_
      rintro e w1 ⟨cp, rfl, hcp, hB, g1⟩
      have c2 := fun f => Lib.hid (after_no (f := f) (.inr rfl) hB)
      go_wp2_with fail
      with_reducible refine (c2 _).out.mono ?_
      rintro e w2 ⟨rfl, g2⟩
      go_wp2_with fail
      go_ret2
      exact got_err 3 (g1.trans g2)
    · obtain ⟨k, rfl⟩ : ∃ k : Nat, who = (k : Int) := ⟨who.toNat, by omega⟩
      have hk : k < n := by omega
      obtain ⟨x, hx⟩ : ∃ x, l[k]? = some x := ⟨_, List.getElem?_eq_getElem (by omega)⟩
      rw [outc_at hr hx]
      have hbx := hm.2.1 x (List.mem_of_getElem? hx)
      have HB := Lib.hid hm.2.1
      have HX := Lib.hid hx
      have c1 := Lib.hid (choose_ok (c := c) hn hr hk hm)
      obtain ⟨⟨q, y⟩, hp⟩ : ∃ r, rdG x = r := ⟨_, rfl⟩
      have hy := b64_rd hbx
      have hq := err_rd x
      rw [hp] at hy hq ⊢
      have HP := Lib.hid hp
      clear hm hr hw hx hp
      rcases hq with hq | hq
      · obtain rfl : q = 0 := hq
        rw [if_pos rfl]
        go_enter Try.func9, Try.ntmps9
        go_wp2_with fail
        with_reducible refine c1.out.mono ?_
        rintro e w1 ⟨cp, g, rfl, hcp, hg, hC, g1⟩
        have c2 := Lib.hid (after_yes (enters_of Try.func26 (by kernel_rfl) rfl) ready_is hC HX.out hg HP.out)
        rw [hl] at c2
        clear hC
        go_wp2_with fail
        with_reducible refine c2.out.mono ?_
        rintro e w2 ⟨rfl, g2, hv⟩
        have HV := Lib.hid hv
        clear hv
        go_wp2_with fail
        go_ret2
        exact got_yes hl hg (b64_set HB.out hy) HV.out (g1.trans' g2)
      · rw [if_neg (by show q ≠ 0; omega)]
        go_enter Try.func9, Try.ntmps9
        go_wp2_with fail
        with_reducible refine c1.out.mono ?_
        rintro e w1 ⟨cp, g, rfl, hcp, hg, hC, g1⟩
        have c2 := Lib.hid (after_err (enters_of Try.func26 (by kernel_rfl) rfl) ready_is hC HX.out hg (by rw [HP.out]) hq)
        clear hC
        go_wp2_with fail
        with_reducible refine c2.out.mono ?_
        rintro e w2 ⟨rfl, g2⟩
        go_wp2_with fail
        go_ret2
        exact got_err q (g1.trans' g2)
  · have hr0 : rightB l = false := by simpa using hr
    rw [outc_arg hr0]
    have c1 := Lib.hid (choose_arg (c := c) (who := who) hn hr0 hm)
    clear hm hr hr0
    go_enter Try.func9, Try.ntmps9
    go_wp2_with fail
    with_reducible refine c1.out.mono ?_
    rintro e w1 ⟨cp, rfl, hcp, hB, g1⟩
    have c2 := fun f => Lib.hid (after_no (f := f) (.inl rfl) hB)
    go_wp2_with fail
    with_reducible refine (c2 _).out.mono ?_
    rintro e w2 ⟨rfl, g2⟩
    go_wp2_with fail
    go_ret2
    exact got_err 1 (g1.trans g2)
end

section
variable {A : Option Addr} {n c : Nat} {l : List G} {who : Int}
set_option maxHeartbeats 2000000 in
theorem End_is (hn : n ≤ 9223372036854775807) (w : World) (hm : GMem w A n l) :
    Calls Try.prog 10 #[.slice A n c, .int .i64 who] w (Got w (outc enG l who)) := by
  have hmf : ∀ (fn : Fn) (first cap : Array Value) (w : World), (Instr.makeFunc fn first cap).run Try.prog w = .ok (.func fn first cap) w := fun _ _ _ _ => rfl
  have hl := hm.1
  by_cases hr : rightB l = true
  · by_cases hw : who < 0 ∨ n ≤ who
    · rw [outc_range hr (by rw [hl]; exact hw)]
      have c1 := Lib.hid (choose_range (c := c) hn hr hw hm)
      clear hm hr hw
      go_enter Try.func10, Try.ntmps10
      go_wp2_with fail
      with_reducible refine c1.out.mono ?_
      rintro e w1 ⟨cp, rfl, hcp, hB, g1⟩
      have c2 := fun f => Lib.hid (after_no (f := f) (.inr rfl) hB)
      go_wp2_with fail
      with_reducible refine (c2 _).out.mono ?_
      rintro e w2 ⟨rfl, g2⟩
      go_wp2_with fail
      go_ret2
      exact got_err 3 (g1.trans g2)
    · obtain ⟨k, rfl⟩ : ∃ k : Nat, who = (k : Int) := ⟨who.toNat, by omega⟩
      have hk : k < n := by omega
      obtain ⟨x, hx⟩ : ∃ x, l[k]? = some x := ⟨_, List.getElem?_eq_getElem (by omega)⟩
      rw [outc_at hr hx]
      have hbx := hm.2.1 x (List.mem_of_getElem? hx)
      have HB := Lib.hid hm.2.1
      have HX := Lib.hid hx
      have c1 := Lib.hid (choose_ok (c := c) hn hr hk hm)
      obtain ⟨⟨q, y⟩, hp⟩ : ∃ r, enG x = r := ⟨_, rfl⟩
      have hy := b64_en hbx
      have hq := err_en x
      rw [hp] at hy hq ⊢
      have HP := Lib.hid hp
      clear hm hr hw hx hp
      rcases hq with hq | hq
      · obtain rfl : q = 0 := hq
        rw [if_pos rfl]
        go_enter Try.func10, Try.ntmps10
        go_wp2_with fail
        with_reducible refine c1.out.mono ?_
        rintro e w1 ⟨cp, g, rfl, hcp, hg, hC, g1⟩
        have c2 := Lib.hid (after_yes (enters_of Try.func27 (by kernel_rfl) rfl) end_is hC HX.out hg HP.out)
        rw [hl] at c2
        clear hC
        go_wp2_with fail
        with_reducible refine c2.out.mono ?_
        rintro e w2 ⟨rfl, g2, hv⟩
        have HV := Lib.hid hv
        clear hv
        go_wp2_with fail
        go_ret2
        exact got_yes hl hg (b64_set HB.out hy) HV.out (g1.trans' g2)
      · rw [if_neg (by show q ≠ 0; omega)]
        go_enter Try.func10, Try.ntmps10
        go_wp2_with fail
        with_reducible refine c1.out.mono ?_
        rintro e w1 ⟨cp, g, rfl, hcp, hg, hC, g1⟩
        have c2 := Lib.hid (after_err (enters_of Try.func27 (by kernel_rfl) rfl) end_is hC HX.out hg (by rw [HP.out]) hq)
        clear hC
        go_wp2_with fail
        with_reducible refine c2.out.mono ?_
        rintro e w2 ⟨rfl, g2⟩
        go_wp2_with fail
        go_ret2
        exact got_err q (g1.trans' g2)
  · have hr0 : rightB l = false := by simpa using hr
    rw [outc_arg hr0]
    have c1 := Lib.hid (choose_arg (c := c) (who := who) hn hr0 hm)
    clear hm hr hr0
    go_enter Try.func10, Try.ntmps10
    go_wp2_with fail
    with_reducible refine c1.out.mono ?_
    rintro e w1 ⟨cp, rfl, hcp, hB, g1⟩
    have c2 := fun f => Lib.hid (after_no (f := f) (.inl rfl) hB)
    go_wp2_with fail
    with_reducible refine (c2 _).out.mono ?_
    rintro e w2 ⟨rfl, g2⟩
    go_wp2_with fail
    go_ret2
    exact got_err 1 (g1.trans g2)
end

/-- The numbers of those that run, among the first k. -/
def rnK (l : List G) (k : Nat) : List Int := ((List.range k).filter fun (i : Nat) => (l[i]?.map (fun x : G => x.1)) == some 0).map fun (i : Nat) => (i : Int)
def rn (l : List G) : List Int := rnK l l.length
theorem rnK_yes {l : List G} {k : Nat} {x : G} (h : l[k]? = some x) (hx : x.1 = 0) : rnK l (k + 1) = rnK l k ++ [(k : Int)] := by
  simp [rnK, List.range_succ, h, hx]
theorem rnK_no {l : List G} {k : Nat} {x : G} (h : l[k]? = some x) (hx : x.1 ≠ 0) : rnK l (k + 1) = rnK l k := by
  simp [rnK, List.range_succ, h, hx]
theorem rnK_len (l : List G) (k : Nat) : (rnK l k).length ≤ k := by
  unfold rnK
  rw [List.length_map]
  exact Nat.le_trans (List.length_filter_le _ _) (by simp)
theorem mem_rn {l : List G} {i : Int} : i ∈ rn l ↔ ∃ (k : Nat) (x : G), i = (k : Int) ∧ l[k]? = some x ∧ x.1 = 0 := by
  unfold rn rnK
  simp only [List.mem_map, List.mem_filter, List.mem_range, beq_iff_eq, Option.map_eq_some_iff]
  constructor
  · rintro ⟨k, ⟨hk, x, hx, h0⟩, rfl⟩
    exact ⟨k, x, rfl, hx, h0⟩
  · rintro ⟨k, x, rfl, hx, h0⟩
    exact ⟨k, ⟨(List.getElem?_eq_some_iff.1 hx).1, x, hx, h0⟩, rfl⟩
theorem rnK_cnt (l : List G) (k : Nat) (hk : k ≤ l.length) : (rnK l k).length = (l.take k).countP (fun x => x.1 == 0) := by
  induction k with
  | zero => simp [rnK]
  | succ k ih =>
    have hx : l[k]? = some l[k] := List.getElem?_eq_getElem (by omega)
    rw [List.take_succ_eq_append_getElem (by omega), List.countP_append, ← ih (by omega)]
    by_cases h0 : l[k].1 = 0
    · rw [rnK_yes hx h0]; simp [h0]
    · rw [rnK_no hx h0]; simp [h0]
theorem rn_cnt (l : List G) : (rn l).length = l.countP (fun x => x.1 == 0) := by
  rw [rn, rnK_cnt l _ (Nat.le_refl _), List.take_length]

section
variable {A : Option Addr} {n c : Nat} {l : List G}
set_option maxHeartbeats 2000000 in
theorem Runnable_no (hn : n ≤ 9223372036854775807) (hr : rightB l = false) (w : World) (hm : GMem w A n l) :
    Calls Try.prog 11 #[.slice A n c] w fun e w' => e = .returned (.tuple #[.slice none 0 0, .int .i64 1]) ∧ Gr w w' := by
  have c1 := Lib.hid (Right_is (c := c) hr hn w hm)
  clear hm hr
  go_enter Try.func11, Try.ntmps11
  go_wp2_with fail
  with_reducible refine c1.out.mono ?_
  rintro e w1 ⟨rfl, g1⟩
  go_wp2_with fail
  go_ret2
  exact ⟨rfl, g1⟩
set_option maxHeartbeats 2000000 in
theorem Runnable_yes (hn : n ≤ 9223372036854775807) (hr : rightB l = true) (w : World) (hm : GMem w A n l) :
    Calls Try.prog 11 #[.slice A n c] w fun e w' => ∃ C d, e = .returned (.tuple #[.slice C (rn l).length d, .int .i64 0]) ∧ IOwn w.heap.size w' C (rn l).length d (rn l) ∧ Gr w w' := by
  have h8 : n ≤ 8 := by have := hm.1; simp [rightB] at hr; omega
  have c1 := Lib.hid (Right_is (c := c) hr hn w hm)
  obtain ⟨i0, hi0, hz0, hz1, hz2⟩ := info_parts infoInt
  have HZ := Lib.hid hz0
  have HZ1 := Lib.hid hz1
  have HZ2 := Lib.hid hz2
  have HI0 := Lib.hid hi0
  have HM := Lib.hid hm
  clear hz0 hz1 hz2 hi0 hm hr
  go_enter Try.func11, Try.ntmps11
  go_wp2_with fail
  with_reducible refine c1.out.mono ?_
  rintro e w1 ⟨rfl, g1⟩
  go_wp2_with fail
  go_loopw [4, 12] (fun L i wr => ∃ (k q : Nat) (C : Option Addr) (d : Nat), k ≤ n ∧ q ≤ k ∧ i = .int .i64 (k : Int) ∧ L = .slice C q d ∧ Hid (IOwn w.heap.size wr C q d (rnK l k)) ∧ Hid (Gr w wr)) (fun _ i _ => n - (intOf i).toNat)
  case atStart => exact ⟨0, 0, _, 0, Nat.zero_le _, Nat.zero_le _, rfl, rfl, Lib.hid OMem.nil_, Lib.hid g1⟩
  case round =>
    obtain ⟨k, q, C, d, hk, hq, rfl, rfl, HO, HG⟩ := hrel
    by_cases hlt : k < n
    · obtain ⟨b, off, x, rfl, hbl, hx, hix, cx, cy⟩ := (HM.out.gr HG.out).at_ hlt
      have HX := Lib.hid hx
      clear hx
      obtain ⟨s, p⟩ := x
      by_cases he : s = 0
      · subst he
        have H1 := Lib.hid (rnK_yes HX.out rfl)
        go_wp2_with (at_builtin; refine Mark.stop ?_)
        refine Mark.go ?_
        refine wpList_append_omem _ (Value.int .i64) B64 rfl (.tmp 20) (.tmp 22) 27 rfl (fun _ => rfl) w.heap.size 3 i0 (.int .i64 0) 8 Try.underlying27 HI0.out HZ.out HZ1.out HZ2.out rfl C q d _ rfl (HO.out.gr (((Gr.refl _).al _).al _)) _ 1 1 [(k : Int)] rfl (emem_one' _ (k : Int) ⟨by omega, by omega⟩ _ (by simp)) (by unfold maxLen; omega) (by omega) ((HG.out.al _).al _).size ?_
        intro C3 k3 w3 own3 gb3
        rw [← H1.out] at own3
        have O3 := Lib.hid own3
        have G3 := Lib.hid (((HG.out.al (.cells #[.int .i64 0, .bool p] 40)).al (.cells #[.int .i64 (k : Int)] 3)).gb gb3 (fun k hk => (HO.out.lt k hk).1))
        clear gb3 own3
        go_wp2_with fail
        go_roundw
        case rel => exact ⟨k + 1, q + 1, C3, k3, by omega, by omega, by go_num, rfl, O3, G3⟩
        case measure => simp [intOf]; omega
      · have ne : (s == 0) = false := beq_eq_false_iff_ne.2 he
        have H1 := Lib.hid (rnK_no HX.out he)
        go_wp2_with fail
        go_roundw
        case rel => exact ⟨k + 1, q, C, d, by omega, by omega, by go_num, rfl, Lib.hid (by rw [H1.out]; exact HO.out.gr ((Gr.refl _).al _)), Lib.hid (HG.out.al _)⟩
        case measure => simp [intOf]; omega
    · obtain rfl : k = n := by omega
      have own := HO.out
      rw [← HM.out.1] at own
      have hq : q = (rn l).length := own.mem.1.symm
      subst hq
      go_wp2_with fail
      go_ret2
      exact ⟨C, d, rfl, own, HG.out⟩
end
end P11
end Go.Proofs.Ytgloccbcbgpneaa
