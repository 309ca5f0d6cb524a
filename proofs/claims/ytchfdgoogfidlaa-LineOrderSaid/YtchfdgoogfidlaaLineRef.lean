/-
  deadboltref07; what the laws of line share: few, alive.
-/
import Derived.Test.YtchfdgoogfidlaaLineDrop
import Derived.Deep.QuietTactic
namespace Go.Proofs.Ytchfdgoogfidlaa
open Go.ChangeShapes Go.WideShapes Go.ChangeAt Go.RowKit
set_option linter.unusedVariables false

section
variable {w : World} {A B : Option Addr} {n c m d : Nat} {l r : List Int}
set_option maxHeartbeats 2000000 in
theorem rPlace_no (hm : IMem w A n l) (hn : n ≤ 9223372036854775807) {x : Int} (hx : x ∉ l) :
    Calls Try.prog 16 #[.slice A n c, .int .i64 x] w fun e w' => e = .returned (.int .i64 (-1)) ∧ w' = w := by
  have HX := Lib.hid hx
  have HM := Lib.hid hm
  clear hx hm
  go_enter Try.func16, Try.ntmps16
  go_wp2_with fail
  go_loop [9] (fun i => ∃ k : Nat, k ≤ n ∧ i = .int .i64 (k : Int)) (fun i => n - (intOf i).toNat)
  case atStart => exact ⟨0, by omega, rfl⟩
  case round =>
    obtain ⟨k, hk, rfl⟩ := hrel
    by_cases hlt : k < n
    · obtain ⟨b, off, y, rfl, hbl, hy, hiy, cy⟩ := HM.out.at_ hlt
      have ne : (y == x) = false := beq_eq_false_iff_ne.2 fun e => HX.out (e ▸ List.mem_of_getElem? hy)
      clear hy
      go_wp2_with fail
      go_round
      case rel => exact ⟨k + 1, by omega, by go_num⟩
      case measure => simp [intOf]; omega
    · obtain rfl : k = n := by omega
      go_wp2_with fail
      go_ret
      exact ⟨rfl, rfl⟩
set_option maxHeartbeats 2000000 in
theorem rPlace_at (hm : IMem w A n l) (hn : n ≤ 9223372036854775807) {x : Int} {p : Nat} (hp : l[p]? = some x) (hf : ∀ j, j < p → l[j]? ≠ some x) :
    Calls Try.prog 16 #[.slice A n c, .int .i64 x] w fun e w' => e = .returned (.int .i64 (p : Int)) ∧ w' = w := by
  have hpn : p < n := by rw [← hm.1]; exact (List.getElem?_eq_some_iff.1 hp).1
  have HP := Lib.hid hp
  have HF := Lib.hid hf
  have HM := Lib.hid hm
  clear hp hf hm
  go_enter Try.func16, Try.ntmps16
  go_wp2_with fail
  go_loop [9] (fun i => ∃ k : Nat, k ≤ p ∧ i = .int .i64 (k : Int)) (fun i => n - (intOf i).toNat)
  case atStart => exact ⟨0, by omega, rfl⟩
  case round =>
    obtain ⟨k, hk, rfl⟩ := hrel
    have hkn : k < n := by omega
    obtain ⟨b, off, y, rfl, hbl, hy, hiy, cy⟩ := HM.out.at_ hkn
    by_cases hlt : k < p
    · have ne : (y == x) = false := beq_eq_false_iff_ne.2 fun e => HF.out k hlt (e ▸ hy)
      clear hy
      go_wp2_with fail
      go_round
      case rel => exact ⟨k + 1, by omega, by go_num⟩
      case measure => simp [intOf]; omega
    · obtain rfl : k = p := by omega
      rw [HP.out] at hy
      cases hy
      go_wp2_with fail
      go_ret
      exact ⟨rfl, rfl⟩
theorem rPlace_any (hm : IMem w A n l) (hn : n ≤ 9223372036854775807) (x : Int) : ∃ p : Int, (p < 0 ↔ x ∉ l) ∧
    Calls Try.prog 16 #[.slice A n c, .int .i64 x] w fun e w' => e = .returned (.int .i64 p) ∧ w' = w := by
  by_cases hx : x ∈ l
  · obtain ⟨a, b, hab, ha⟩ : ∃ a b, l = a ++ x :: b ∧ x ∉ a := List.eq_append_cons_of_mem hx
    refine ⟨(a.length : Int), ⟨fun h => by omega, fun h => absurd hx h⟩, rPlace_at hm hn (by rw [hab]; simp) fun j hj e => ha ?_⟩
    rw [hab, List.getElem?_append_left hj] at e
    exact List.mem_of_getElem? e
  · exact ⟨-1, ⟨fun _ => hx, fun _ => by omega⟩, rPlace_no hm hn hx⟩
set_option maxHeartbeats 4000000 in
theorem rRight_is (hm : IMem w A n l) (hc : n ≤ c) (hn : n ≤ 9223372036854775807) {v : Bool} (hv : v = true ↔ Ln l) :
    Calls Try.prog 12 #[.slice A n c] w fun e w' => e = .returned (.bool v) ∧ w' = w := by
  have hlen := hm.1
  have HM := Lib.hid hm
  have HV := Lib.hid hv
  clear hm hv
  go_enter Try.func12, Try.ntmps12
  go_wp2_with fail
  go_loop [7] (fun i => ∃ k : Nat, k ≤ n ∧ i = .int .i64 (k : Int) ∧ Hid (Good (l.take k))) (fun i => n - (intOf i).toNat)
  case atStart => exact ⟨0, by omega, rfl, Lib.hid (by simpa using Good.nil)⟩
  case round =>
    obtain ⟨k, hk, rfl, HG⟩ := hrel
    by_cases hlt : k < n
    · obtain ⟨b, off, x, rfl, hbl, hx, hix, cx⟩ := HM.out.at_ hlt
      have HX := Lib.hid hx
      clear hx
      by_cases h0 : x < 0
      · obtain rfl : v = false := by
          cases v
          · rfl
          · have := (HV.out.1 rfl).2.1 x (List.mem_of_getElem? HX.out); omega
        go_wp2_with fail
        go_ret
        exact ⟨rfl, rfl⟩
      · have hkc : (k : Int) ≤ (c : Int) := by omega
        have hk0 : (0 : Int) ≤ (k : Int) := by omega
        obtain ⟨p, hp, hC⟩ := rPlace_any (c := c) (HM.out.take_ k hk) (by omega) x
        have kC := Lib.hid hC
        clear hC
        by_cases hp0 : p < 0
        · have HG' : Hid (Good (l.take (k + 1))) := Lib.hid (by
            rw [take_more HX.out, good_app, good_one]
            refine ⟨HG.out, by omega, fun y hy hy1 => ?_⟩
            rw [List.mem_singleton] at hy1
            subst hy1
            exact hp.1 hp0 hy)
          have hp1 : ¬ 0 ≤ p := by omega
          clear hp
          go_wp2_with fail
          refine kC.out.mono ?_
          rintro e w1 ⟨rfl, rfl⟩
          go_wp2_with fail
          go_round
          case rel => exact ⟨k + 1, by omega, by go_num, HG'⟩
          case measure => simp [intOf]; omega
        · obtain rfl : v = false := by
            cases v
            · rfl
            · exfalso
              have hg := (HV.out.1 rfl).2
              have hmem : x ∈ l.take k := Classical.byContradiction fun h => hp0 (hp.2 h)
              obtain ⟨j, hj⟩ := List.mem_iff_getElem?.1 hmem
              rw [List.getElem?_take] at hj
              split at hj
              · exact not_good_dup HX.out hj (by assumption) hg
              · cases hj
          have hp1 : 0 ≤ p := by omega
          clear hp
          go_wp2_with fail
          refine kC.out.mono ?_
          rintro e w1 ⟨rfl, rfl⟩
          go_wp2_with fail
          go_ret
          exact ⟨rfl, rfl⟩
    · obtain rfl : k = n := by omega
      have hg := HG.out
      rw [← hlen, List.take_length] at hg
      obtain rfl : v = decide ((k : Int) ≤ 64) := by
        by_cases h : k ≤ 64
        · rw [HV.out.2 ⟨by omega, hg⟩, decide_eq_true (by omega)]
        · rw [decide_eq_false (by omega)]
          cases v
          · rfl
          · have := (HV.out.1 rfl).1; omega
      go_wp2_with fail
      go_ret
      exact ⟨rfl, rfl⟩
set_option maxHeartbeats 2000000 in
theorem rSame_is (hA : IMem w A n l) (hB : IMem w B m r) (hn : n ≤ 9223372036854775807) (hm : m ≤ 9223372036854775807) {v : Bool} (hv : v = true ↔ l = r) :
    Calls Try.prog 15 #[.slice A n c, .slice B m d] w fun e w' => e = .returned (.bool v) ∧ Gr w w' := by
  have HV := Lib.hid hv
  have HA := Lib.hid hA
  have HB := Lib.hid hB
  clear hA hB hv
  by_cases hnm : n = m
  · subst hnm
    go_enter Try.func15, Try.ntmps15
    go_wp2_with fail
    go_loopw [13] (fun i wr => ∃ k : Nat, k ≤ n ∧ i = .int .i64 k ∧ Hid (∀ j, j < k → l[j]? = r[j]?) ∧ Gr w wr) (fun i _ => n - (intOf i).toNat)
    case atStart => exact ⟨0, Nat.zero_le _, rfl, Lib.hid (fun j hj => absurd hj (by omega)), Gr.refl _⟩
    case round =>
      obtain ⟨k, hkn, rfl, HJ, hg⟩ := hrel
      by_cases hlt : k < n
      · obtain ⟨b, off, x, rfl, hbl, hx, hix, c0⟩ := (HA.out.gr hg).at_ hlt
        obtain ⟨b', off', x', rfl, hbl', hx', hix', c0'⟩ := (HB.out.gr hg).at_ hlt
        have k0 : (0 : Int) ≤ (k : Int) := by omega
        have k1 : (k : Int) < (n : Int) := by omega
        by_cases he : x = x'
        · subst he
          have HJ' : Hid (∀ j, j < k + 1 → l[j]? = r[j]?) := Lib.hid fun j hj => by
            by_cases h : j < k
            · exact HJ.out j h
            · obtain rfl : j = k := by omega
              rw [hx, hx']
          clear hx hx' HJ
          go_wp2_with fail
          go_quiet (fail)
          go_wp2_with fail
          go_roundw
          case rel => exact ⟨k + 1, by omega, by go_num, HJ', hg.drN _⟩
          case measure => simp [intOf]; omega
        · have ne : (x == x') = false := beq_eq_false_iff_ne.2 he
          obtain rfl : v = false := by
            cases v
            · rfl
            · have := HV.out.1 rfl
              rw [this, hx'] at hx
              exact absurd (Option.some.inj hx).symm he
          clear hx hx' HJ
          go_wp2_with fail
          go_quiet (fail)
          go_wp2_with fail
          go_ret
          exact ⟨rfl, hg.drN _⟩
      · obtain rfl : k = n := by omega
        obtain rfl : v = true := HV.out.2 (List.ext_getElem? fun j => by
          by_cases h : j < k
          · exact HJ.out j h
          · rw [List.getElem?_eq_none (by rw [HA.out.1]; omega), List.getElem?_eq_none (by rw [HB.out.1]; omega)])
        go_wp2_with fail
        go_ret
        exact ⟨rfl, hg⟩
  · obtain rfl : v = false := by
      cases v
      · rfl
      · have := HV.out.1 rfl
        have h1 := HA.out.1
        have h2 := HB.out.1
        rw [this] at h1
        omega
    have ne : ((n : Int) == (m : Int)) = false := beq_eq_false_iff_ne.2 (by omega)
    go_enter Try.func15, Try.ntmps15
    go_wp2_with fail
    go_ret
    exact ⟨rfl, Gr.refl _⟩
set_option maxHeartbeats 2000000 in
theorem rPush_is (hm : IMem w A n l) (hn : n ≤ 1000000) {who : Int} (hw : B64 who) {first : Bool} {R : List Int} (hR : R = if first = true then who :: l else l ++ [who]) :
    Calls Try.prog 18 #[.slice A n c, .int .i64 who, .bool first] w fun e w' => ∃ C k, e = .returned (.slice C (n + 1) k) ∧ IOwn w.heap.size w' C (n + 1) k R ∧ Gr w w' := by
  obtain ⟨i0, hi0, hz0, hz1, hz2⟩ := info_parts infoInt
  have HZ := Lib.hid hz0
  have HZ1 := Lib.hid hz1
  have HZ2 := Lib.hid hz2
  have HI0 := Lib.hid hi0
  have HM := Lib.hid hm
  have HR := Lib.hid hR
  clear hz0 hz1 hz2 hi0 hm hR
  have o0 := omem_empty (enc := Value.int .i64) (ok := B64) w 3 (Nat.le_refl _)
  have g0 := (Gr.refl w).al (.cells #[] 3)
  cases first
  · go_enter Try.func18, Try.ntmps18
    go_wp2_with (at_builtin; refine Mark.stop ?_)
    refine Mark.go ?_
    refine wpList_append_omem _ (Value.int .i64) B64 rfl (.tmp 14) (.tmp 15) 22 rfl (fun _ => rfl) w.heap.size 3 i0 (.int .i64 0) 8 Try.underlying22 HI0.out HZ.out HZ1.out HZ2.out rfl _ 0 0 [] rfl o0 A n c l rfl (HM.out.gr g0) (by unfold maxLen; omega) (by omega) g0.size ?_
    intro C2 k2 w2 own2 gb2
    simp only [Nat.zero_add, List.nil_append] at own2
    have G2 := Lib.hid (g0.gb gb2 (fun k hk => (o0.lt k hk).1))
    simp only [Nat.zero_add]
    clear gb2
    go_wp2_with (at_builtin; refine Mark.stop ?_)
    refine Mark.go ?_
    refine wpList_append_omem _ (Value.int .i64) B64 rfl (.tmp 19) (.tmp 21) 22 rfl (fun _ => rfl) w.heap.size 3 i0 (.int .i64 0) 8 Try.underlying22 HI0.out HZ.out HZ1.out HZ2.out rfl C2 n k2 l rfl (own2.gr ((Gr.refl _).al _)) _ 1 1 [who] rfl (emem_one _ who hw _) (by unfold maxLen; omega) (by omega) (G2.out.al _).size ?_
    intro C3 k3 w3 own3 gb3
    have G3 := Lib.hid ((G2.out.al (.cells #[.int .i64 who] 3)).gb gb3 (fun k hk => (own2.lt k hk).1))
    clear gb3
    go_wp2_with fail
    go_ret
    exact ⟨C3, k3, rfl, HR.out ▸ own3, G3.out⟩
  · go_enter Try.func18, Try.ntmps18
    go_wp2_with (at_builtin; refine Mark.stop ?_)
    refine Mark.go ?_
    refine wpList_append_omem _ (Value.int .i64) B64 rfl (.tmp 10) (.tmp 12) 22 rfl (fun _ => rfl) w.heap.size 3 i0 (.int .i64 0) 8 Try.underlying22 HI0.out HZ.out HZ1.out HZ2.out rfl _ 0 0 [] rfl (o0.gr ((Gr.refl _).al _)) _ 1 1 [who] rfl (emem_one' _ who hw _ (by simp)) (by unfold maxLen; omega) (by omega) (g0.al _).size ?_
    intro C2 k2 w2 own2 gb2
    simp only [Nat.zero_add, List.nil_append] at own2
    have G2 := Lib.hid ((g0.al (.cells #[.int .i64 who] 3)).gb gb2 (fun k hk => (o0.lt k hk).1))
    simp only [Nat.zero_add]
    clear gb2
    go_wp2_with (at_builtin; refine Mark.stop ?_)
    refine Mark.go ?_
    refine wpList_append_omem _ (Value.int .i64) B64 rfl (.tmp 14) (.tmp 15) 22 rfl (fun _ => rfl) w.heap.size 3 i0 (.int .i64 0) 8 Try.underlying22 HI0.out HZ.out HZ1.out HZ2.out rfl C2 1 k2 [who] rfl own2 A n c l rfl (HM.out.gr G2.out) (by unfold maxLen; omega) (by omega) G2.out.size ?_
    intro C3 k3 w3 own3 gb3
    have G3 := Lib.hid (G2.out.gb gb3 (fun k hk => (own2.lt k hk).1))
    clear gb3
    have e1 : 1 + n = n + 1 := by omega
    rw [e1] at own3 ⊢
    go_wp2_with fail
    go_ret
    exact ⟨C3, k3, rfl, HR.out ▸ own3, G3.out⟩
set_option maxHeartbeats 2000000 in
theorem rWithout_is (hm : IMem w A n l) (hn : n ≤ 1000000) {who : Int} (hw : B64 who) {R : List Int} (hR : R = l.filter (fun x => x != who)) :
    Calls Try.prog 17 #[.slice A n c, .int .i64 who] w fun e w' => ∃ C k, e = .returned (.slice C R.length k) ∧ IOwn w.heap.size w' C R.length k R ∧ Gr w w' := by
  obtain ⟨i0, hi0, hz0, hz1, hz2⟩ := info_parts infoInt
  have HZ := Lib.hid hz0
  have HZ1 := Lib.hid hz1
  have HZ2 := Lib.hid hz2
  have HI0 := Lib.hid hi0
  have HM := Lib.hid hm
  have HR := Lib.hid hR
  clear hz0 hz1 hz2 hi0 hm hR
  have o0 := omem_empty (enc := Value.int .i64) (ok := B64) w 3 (Nat.le_refl _)
  have g0 := (Gr.refl w).al (.cells #[] 3)
  go_enter Try.func17, Try.ntmps17
  go_wp2_with fail
  go_loopw [5, 11] (fun L i wr => ∃ (k q : Nat) (C : Option Addr) (d : Nat), k ≤ n ∧ q ≤ k ∧ i = .int .i64 (k : Int) ∧ L = .slice C q d ∧ Hid (IOwn w.heap.size wr C q d ((l.take k).filter (fun x => x != who))) ∧ Hid (Gr w wr)) (fun _ i _ => n - (intOf i).toNat)
  case atStart => exact ⟨0, 0, _, 0, Nat.zero_le _, Nat.zero_le _, rfl, rfl, Lib.hid (by simpa using o0), Lib.hid g0⟩
  case round =>
    clear o0 g0
    obtain ⟨k, q, C, d, hk, hq, rfl, rfl, HO, HG⟩ := hrel
    by_cases hlt : k < n
    · obtain ⟨b, off, x, rfl, hbl, hx, hix, cx⟩ := (HM.out.gr HG.out).at_ hlt
      have HX := Lib.hid (take_more hx)
      clear hx
      by_cases he : x = who
      · subst he
        go_wp2_with fail
        go_roundw
        case rel => exact ⟨k + 1, q, C, d, by omega, by omega, by go_num, rfl, Lib.hid (by rw [HX.out, List.filter_append]; simpa using HO.out), HG⟩
        case measure => simp [intOf]; omega
      · have ne : (x == who) = false := beq_eq_false_iff_ne.2 he
        go_wp2_with (at_builtin; refine Mark.stop ?_)
        refine Mark.go ?_
        refine wpList_append_omem _ (Value.int .i64) B64 rfl (.tmp 18) (.tmp 20) 22 rfl (fun _ => rfl) w.heap.size 3 i0 (.int .i64 0) 8 Try.underlying22 HI0.out HZ.out HZ1.out HZ2.out rfl C q d _ rfl (HO.out.gr ((Gr.refl _).al _)) _ 1 1 [x] rfl (emem_one _ x hix _) (by unfold maxLen; omega) (by omega) (HG.out.al _).size ?_
        intro C3 k3 w3 own3 gb3
        have G3 := Lib.hid ((HG.out.al (.cells #[.int .i64 x] 3)).gb gb3 (fun k hk => (HO.out.lt k hk).1))
        clear gb3
        go_wp2_with fail
        go_roundw
        case rel => exact ⟨k + 1, q + 1, C3, k3, by omega, by omega, by go_num, rfl, Lib.hid (by rw [HX.out, List.filter_append]; simpa [he] using own3), G3⟩
        case measure => simp [intOf]; omega
    · obtain rfl : k = n := by omega
      have own := HO.out
      rw [← HM.out.1, List.take_length, ← HR.out] at own
      have hq : q = R.length := own.mem.1.symm
      subst hq
      go_wp2_with fail
      go_ret
      exact ⟨C, d, rfl, own, HG.out⟩
end
set_option maxHeartbeats 1000000 in
theorem few_ok (A : Option Addr) (n c m : Nat) (hc : n ≤ c) (hn : n ≤ 9223372036854775807) (hmn : (70 < n ∧ m = 70) ∨ (n ≤ 70 ∧ m = n)) (w : World) :
    Calls Try.prog 7 #[.slice A n c] w fun e w' => e = .returned (.slice A m c) ∧ w' = w := by
  rcases hmn with ⟨h, rfl⟩ | ⟨h, rfl⟩
  all_goals (
    go_enter Try.func7, Try.ntmps7
    go_wp2_with fail
    go_ret
    exact ⟨rfl, rfl⟩)
set_option maxHeartbeats 2000000 in
theorem alive7_ok (w : World) : Calls Try.prog 14 #[] w fun e w' => e = .returned (.bool true) ∧ Gr w w' := by
  have m0 := emem_two (enc := Value.int .i64) (ok := B64) w 4 2 (by unfold B64; omega) (by unfold B64; omega) 3
  have g0 := (Gr.refl w).al (.cells #[.int .i64 4, .int .i64 2] 3)
  have c1 := Lib.hid (Push_is (c := 2) (who := 7) (first := true) m0 (by omega) (by omega) (by unfold B64; omega) (r := [7, 4, 2]) (e := 0) (.inr (.inr (.inr ⟨by omega, ⟨by decide, by decide, by decide⟩, by decide, by decide, rfl, rfl⟩))))
  clear m0
  go_enter Try.func14, Try.ntmps14
  go_wp2_with fail
  refine c1.out.mono ?_
  rintro e w1 ⟨C, k, rfl, own1, hb1⟩
  have k3 := own1.le
  have c2 := Lib.hid (Place_is own1.mem own1.le (by decide) (who := 2) (r := 2) (e := 0) (.inr (.inr ⟨by omega, ⟨by decide, by decide, by decide⟩, ⟨[7, 4], [], rfl, rfl⟩, rfl⟩)))
  obtain ⟨b, off, x, rfl, hbl, hx, hix, cx⟩ := own1.mem.at_ (k := 0) (by decide)
  cases hx
  rw [Nat.add_zero] at cx
  clear own1
  simp only [List.length_cons, List.length_nil, Nat.zero_add, Nat.reduceAdd] at *
  go_wp2_with fail
  refine c2.out.mono ?_
  rintro e w2 ⟨rfl, rfl⟩
  go_wp2_with fail
  go_ret
  exact ⟨rfl, g0.trans hb1⟩
end Go.Proofs.Ytchfdgoogfidlaa
