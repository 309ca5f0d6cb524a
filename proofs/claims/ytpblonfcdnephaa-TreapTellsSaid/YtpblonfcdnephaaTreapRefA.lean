/-
  The reference of package treap: keys, weights, rows of keys.
-/
import Derived.Test.YtpblonfcdnephaaTreapMem
import Derived.Test.YtpblonfcdnephaaTreap
import Derived.Deep.QuietTactic
namespace Go.Proofs.Ytpblonfcdnephaa
open Go.ChangeShapes Go.WideShapes Go.ChangeAt Go.RowKit
set_option linter.unusedVariables false

theorem take_more {l : List Int} {k : Nat} {x : Int} (h : l[k]? = some x) : l.take (k + 1) = l.take k ++ [x] := by
  rw [List.take_add_one, h]; rfl
/-- A number more, ahead of the first that is greater. -/
def wi (x : Int) : List Int → List Int
  | [] => [x]
  | y :: r => if x < y then x :: y :: r else y :: wi x r
theorem wi_pass {x : Int} : ∀ {a b : List Int}, (∀ z ∈ a, ¬ x < z) → wi x (a ++ b) = a ++ wi x b
  | [], _, _ => rfl
  | y :: r, b, h => by
    have := h y (by simp)
    simp only [List.cons_append, wi, if_neg this]
    rw [wi_pass fun z hz => h z (by simp [hz])]
theorem wi_stop {x : Int} : ∀ {a b : List Int}, (∃ z ∈ a, x < z) → wi x (a ++ b) = wi x a ++ b
  | [], _, h => by obtain ⟨z, hz, _⟩ := h; simp at hz
  | y :: r, b, h => by
    simp only [List.cons_append, wi]
    split
    · rfl
    · obtain ⟨z, hz, hlt⟩ := h
      rcases List.mem_cons.1 hz with rfl | hz
      · contradiction
      · rw [wi_stop ⟨z, hz, hlt⟩]; rfl
theorem wi_mem {x y : Int} : ∀ {l : List Int}, y ∈ wi x l ↔ y = x ∨ y ∈ l
  | [] => by simp [wi]
  | z :: r => by
    unfold wi
    split
    · simp
    · simp only [List.mem_cons, wi_mem]
      constructor
      · rintro (h | h | h)
        · exact .inr (.inl h)
        · exact .inl h
        · exact .inr (.inr h)
      · rintro (h | h | h)
        · exact .inr (.inl h)
        · exact .inl h
        · exact .inr (.inr h)
theorem wi_len {x : Int} : ∀ {l : List Int}, (wi x l).length = l.length + 1
  | [] => rfl
  | z :: r => by
    unfold wi
    split
    · simp
    · simp [wi_len]
theorem wi_rising {x : Int} : ∀ {l : List Int}, Rising l → x ∉ l → Rising (wi x l)
  | [], _, _ => by simp [wi, Rising]
  | y :: r, h, hn => by
    obtain ⟨h1, h2⟩ := List.pairwise_cons.1 h
    simp only [List.mem_cons, not_or] at hn
    unfold wi
    split
    · rename_i hlt
      refine List.pairwise_cons.2 ⟨fun z hz => ?_, h⟩
      rcases List.mem_cons.1 hz with rfl | hz
      · exact hlt
      · have := h1 z hz; omega
    · refine List.pairwise_cons.2 ⟨fun z hz => ?_, wi_rising h2 hn.2⟩
      rcases wi_mem.1 hz with rfl | hz
      · omega
      · exact h1 z hz

set_option maxHeartbeats 1000000 in
theorem rKey_is (k : Int) {v : Bool} (hv : v = true ↔ IsKey k) (w : World) : Calls Try.prog 13 #[.int .i64 k] w fun e w' => e = .returned (.bool v) ∧ w' = w := by
  unfold IsKey at hv
  by_cases h0 : 0 ≤ k
  · by_cases h1 : k ≤ 4294967295
    · obtain rfl : v = true := hv.2 ⟨h0, h1⟩
      clear hv
      go_enter Try.func13, Try.ntmps13
      go_wp2_with fail
      go_ret
      exact ⟨rfl, rfl⟩
    · obtain rfl : v = false := by
        cases v
        · rfl
        · exact absurd (hv.1 rfl).2 h1
      clear hv
      go_enter Try.func13, Try.ntmps13
      go_wp2_with fail
      go_ret
      exact ⟨rfl, rfl⟩
  · obtain rfl : v = false := by
      cases v
      · rfl
      · exact absurd (hv.1 rfl).1 h0
    clear hv
    go_enter Try.func13, Try.ntmps13
    go_wp2_with fail
    go_ret
    exact ⟨rfl, rfl⟩
theorem wrap_u64 (x : Int) : IntKind.u64.wrap x = x % 18446744073709551616 := by simp [IntKind.wrap, IntKind.bits, IntKind.signed]
set_option maxHeartbeats 1000000 in
theorem rPri_is {k : Int} (h : IsKey k) (w : World) : Calls Try.prog 14 #[.int .i64 k] w fun e w' => e = .returned (.int .i64 (pri k)) ∧ w' = w := by
  unfold IsKey at h
  obtain ⟨p, hp⟩ : ∃ p, p = pri k := ⟨_, rfl⟩
  obtain ⟨m, hm⟩ : ∃ m, m = k * 2654435761 := ⟨_, rfl⟩
  have e1 : IntKind.u64.wrap k = k := (wrap_u64 k).trans (by omega)
  have e2 : IntKind.u64.wrap (k * 2654435761) = m := by rw [wrap_u64, ← hm]; omega
  have hr : 0 ≤ p ∧ p < 4294967296 := by rw [hp]; exact pri_range k
  have e0 : m.tmod 4294967296 = p := by rw [Int.tmod_eq_emod_of_nonneg (by omega), hp, hm]; rfl
  have e3 : IntKind.i64.wrap p = p := wrap_id (by omega) (by omega)
  have e4 : IntKind.u64.wrap p = p := (wrap_u64 p).trans (by omega)
  rw [← hp]
  clear hp hm
  go_enter Try.func14, Try.ntmps14
  go_wp2_with fail
  go_ret
  exact ⟨rfl, rfl⟩

section
variable {w : World} {A B : Option Addr} {n c m d : Nat} {l r : List Int}
set_option maxHeartbeats 2000000 in
theorem rPlace_no (hm : IMem w A n l) (hn : n ≤ 9223372036854775807) {x : Int} (hx : x ∉ l) :
    Calls Try.prog 21 #[.slice A n c, .int .i64 x] w fun e w' => e = .returned (.int .i64 (-1)) ∧ w' = w := by
  have HX := Lib.hid hx
  have HM := Lib.hid hm
  clear hx hm
  go_enter Try.func21, Try.ntmps21
  go_wp2_with fail
  go_loop [9] (fun i => ∃ k : Nat, k ≤ n ∧ i = .int .i64 (k : Int)) (fun i => n - (intOf i).toNat)
  case atStart => exact ⟨0, by omega, rfl⟩
  case round =>
    obtain ⟨k, hk, rfl⟩ := hrel
    by_cases hlt : k < n
    · obtain ⟨b, off, y, rfl, hbl, hy, hiy, cy⟩ := HM.out.at_ hlt
      have ne : (y == x) = false := beq_eq_false_iff_ne.2 fun e => HX.out (e ▸ List.mem_of_getElem? hy)
      clear hy
      go_wp2_with fail
      go_round
      case rel => exact ⟨k + 1, by omega, by go_num⟩
      case measure => simp [intOf]; omega
    · obtain rfl : k = n := by omega
      go_wp2_with fail
      go_ret
      exact ⟨rfl, rfl⟩
set_option maxHeartbeats 2000000 in
theorem rPlace_at (hm : IMem w A n l) (hn : n ≤ 9223372036854775807) {x : Int} {p : Nat} (hp : l[p]? = some x) (hf : ∀ j, j < p → l[j]? ≠ some x) :
    Calls Try.prog 21 #[.slice A n c, .int .i64 x] w fun e w' => e = .returned (.int .i64 (p : Int)) ∧ w' = w := by
  have hpn : p < n := by rw [← hm.1]; exact (List.getElem?_eq_some_iff.1 hp).1
  have HP := Lib.hid hp
  have HF := Lib.hid hf
  have HM := Lib.hid hm
  clear hp hf hm
  go_enter Try.func21, Try.ntmps21
  go_wp2_with fail
  go_loop [9] (fun i => ∃ k : Nat, k ≤ p ∧ i = .int .i64 (k : Int)) (fun i => n - (intOf i).toNat)
  case atStart => exact ⟨0, by omega, rfl⟩
  case round =>
    obtain ⟨k, hk, rfl⟩ := hrel
    have hkn : k < n := by omega
    obtain ⟨b, off, y, rfl, hbl, hy, hiy, cy⟩ := HM.out.at_ hkn
    by_cases hlt : k < p
    · have ne : (y == x) = false := beq_eq_false_iff_ne.2 fun e => HF.out k hlt (e ▸ hy)
      clear hy
      go_wp2_with fail
      go_round
      case rel => exact ⟨k + 1, by omega, by go_num⟩
      case measure => simp [intOf]; omega
    · obtain rfl : k = p := by omega
      rw [HP.out] at hy
      cases hy
      go_wp2_with fail
      go_ret
      exact ⟨rfl, rfl⟩
theorem rPlace_any (hm : IMem w A n l) (hn : n ≤ 9223372036854775807) (x : Int) : ∃ p : Int, (p < 0 ↔ x ∉ l) ∧
    Calls Try.prog 21 #[.slice A n c, .int .i64 x] w fun e w' => e = .returned (.int .i64 p) ∧ w' = w := by
  by_cases hx : x ∈ l
  · obtain ⟨a, b, hab, ha⟩ : ∃ a b, l = a ++ x :: b ∧ x ∉ a := List.eq_append_cons_of_mem hx
    refine ⟨(a.length : Int), ⟨fun h => by omega, fun h => absurd hx h⟩, rPlace_at hm hn (by rw [hab]; simp) fun j hj e => ha ?_⟩
    rw [hab, List.getElem?_append_left hj] at e
    exact List.mem_of_getElem? e
  · exact ⟨-1, ⟨fun _ => hx, fun _ => by omega⟩, rPlace_no hm hn hx⟩
set_option maxHeartbeats 2000000 in
theorem rSame_is (hA : IMem w A n l) (hB : IMem w B m r) (hn : n ≤ 9223372036854775807) (hm : m ≤ 9223372036854775807) {v : Bool} (hv : v = true ↔ l = r) :
    Calls Try.prog 19 #[.slice A n c, .slice B m d] w fun e w' => e = .returned (.bool v) ∧ Gr w w' := by
  have HV := Lib.hid hv
  have HA := Lib.hid hA
  have HB := Lib.hid hB
  clear hA hB hv
  by_cases hnm : n = m
  · subst hnm
    go_enter Try.func19, Try.ntmps19
    go_wp2_with fail
    go_loopw [13] (fun i wr => ∃ k : Nat, k ≤ n ∧ i = .int .i64 k ∧ Hid (∀ j, j < k → l[j]? = r[j]?) ∧ Gr w wr) (fun i _ => n - (intOf i).toNat)
    case atStart => exact ⟨0, Nat.zero_le _, rfl, Lib.hid (fun j hj => absurd hj (by omega)), Gr.refl _⟩
    case round =>
      obtain ⟨k, hkn, rfl, HJ, hg⟩ := hrel
      by_cases hlt : k < n
      · obtain ⟨b, off, x, rfl, hbl, hx, hix, c0⟩ := (HA.out.gr hg).at_ hlt
        obtain ⟨b', off', x', rfl, hbl', hx', hix', c0'⟩ := (HB.out.gr hg).at_ hlt
        have k0 : (0 : Int) ≤ (k : Int) := by omega
        have k1 : (k : Int) < (n : Int) := by omega
        by_cases he : x = x'
        · subst he
          have HJ' : Hid (∀ j, j < k + 1 → l[j]? = r[j]?) := Lib.hid fun j hj => by
            by_cases h : j < k
            · exact HJ.out j h
            · obtain rfl : j = k := by omega
              rw [hx, hx']
          clear hx hx' HJ
          go_wp2_with fail
          go_quiet (fail)
          go_wp2_with fail
          go_roundw
          case rel => exact ⟨k + 1, by omega, by go_num, HJ', hg.drN _⟩
          case measure => simp [intOf]; omega
        · have ne : (x == x') = false := beq_eq_false_iff_ne.2 he
          obtain rfl : v = false := by
            cases v
            · rfl
            · have := HV.out.1 rfl
              rw [this, hx'] at hx
              exact absurd (Option.some.inj hx).symm he
          clear hx hx' HJ
          go_wp2_with fail
          go_quiet (fail)
          go_wp2_with fail
          go_ret
          exact ⟨rfl, hg.drN _⟩
      · obtain rfl : k = n := by omega
        obtain rfl : v = true := HV.out.2 (List.ext_getElem? fun j => by
          by_cases h : j < k
          · exact HJ.out j h
          · rw [List.getElem?_eq_none (by rw [HA.out.1]; omega), List.getElem?_eq_none (by rw [HB.out.1]; omega)])
        go_wp2_with fail
        go_ret
        exact ⟨rfl, hg⟩
  · obtain rfl : v = false := by
      cases v
      · rfl
      · have := HV.out.1 rfl
        have h1 := HA.out.1
        have h2 := HB.out.1
        rw [this] at h1
        omega
    have ne : ((n : Int) == (m : Int)) = false := beq_eq_false_iff_ne.2 (by omega)
    go_enter Try.func19, Try.ntmps19
    go_wp2_with fail
    go_ret
    exact ⟨rfl, Gr.refl _⟩
set_option maxHeartbeats 2000000 in
theorem rWithout_is (hm : IMem w A n l) (hn : n ≤ 1000000) {who : Int} (hw : B64 who) {R : List Int} (hR : R = l.filter (fun x => x != who)) :
    Calls Try.prog 26 #[.slice A n c, .int .i64 who] w fun e w' => ∃ C k, e = .returned (.slice C R.length k) ∧ IOwn w.heap.size w' C R.length k R ∧ Gr w w' := by
  obtain ⟨i0, hi0, hz0, hz1, hz2⟩ := info_parts infoInt
  have HZ := Lib.hid hz0
  have HZ1 := Lib.hid hz1
  have HZ2 := Lib.hid hz2
  have HI0 := Lib.hid hi0
  have HM := Lib.hid hm
  have HR := Lib.hid hR
  clear hz0 hz1 hz2 hi0 hm hR
  have o0 := omem_empty (enc := Value.int .i64) (ok := B64) w 3 (Nat.le_refl _)
  have g0 := (Gr.refl w).al (.cells #[] 3)
  go_enter Try.func26, Try.ntmps26
  go_wp2_with fail
  go_loopw [5, 11] (fun L i wr => ∃ (k q : Nat) (C : Option Addr) (d : Nat), k ≤ n ∧ q ≤ k ∧ i = .int .i64 (k : Int) ∧ L = .slice C q d ∧ Hid (IOwn w.heap.size wr C q d ((l.take k).filter (fun x => x != who))) ∧ Hid (Gr w wr)) (fun _ i _ => n - (intOf i).toNat)
  case atStart => exact ⟨0, 0, _, 0, Nat.zero_le _, Nat.zero_le _, rfl, rfl, Lib.hid (by simpa using o0), Lib.hid g0⟩
  case round =>
    clear o0 g0
    obtain ⟨k, q, C, d, hk, hq, rfl, rfl, HO, HG⟩ := hrel
    by_cases hlt : k < n
    · obtain ⟨b, off, x, rfl, hbl, hx, hix, cx⟩ := (HM.out.gr HG.out).at_ hlt
      have HX := Lib.hid (take_more hx)
      clear hx
      by_cases he : x = who
      · subst he
        go_wp2_with fail
        go_roundw
        case rel => exact ⟨k + 1, q, C, d, by omega, by omega, by go_num, rfl, Lib.hid (by rw [HX.out, List.filter_append]; simpa using HO.out), HG⟩
        case measure => simp [intOf]; omega
      · have ne : (x == who) = false := beq_eq_false_iff_ne.2 he
        go_wp2_with (at_builtin; refine Mark.stop ?_)
        refine Mark.go ?_
        refine wpList_append_omem _ (Value.int .i64) B64 rfl (.tmp 18) (.tmp 20) 29 rfl (fun _ => rfl) w.heap.size 3 i0 (.int .i64 0) 8 Try.underlying29 HI0.out HZ.out HZ1.out HZ2.out rfl C q d _ rfl (HO.out.gr ((Gr.refl _).al _)) _ 1 1 [x] rfl (emem_one _ x hix _) (by unfold maxLen; omega) (by omega) (HG.out.al _).size ?_
        intro C3 k3 w3 own3 gb3
        have G3 := Lib.hid ((HG.out.al (.cells #[.int .i64 x] 3)).gb gb3 (fun k hk => (HO.out.lt k hk).1))
        clear gb3
        go_wp2_with fail
        go_roundw
        case rel => exact ⟨k + 1, q + 1, C3, k3, by omega, by omega, by go_num, rfl, Lib.hid (by rw [HX.out, List.filter_append]; simpa [he] using own3), G3⟩
        case measure => simp [intOf]; omega
    · obtain rfl : k = n := by omega
      have own := HO.out
      rw [← HM.out.1, List.take_length, ← HR.out] at own
      have hq : q = R.length := own.mem.1.symm
      subst hq
      go_wp2_with fail
      go_ret
      exact ⟨C, d, rfl, own, HG.out⟩
set_option maxHeartbeats 2000000 in
theorem rNext_no (hm : IMem w A n l) (hn : n ≤ 9223372036854775807) {x : Int} (hx : ∀ y ∈ l, y < x) :
    Calls Try.prog 20 #[.slice A n c, .int .i64 x] w fun e w' => e = .returned (.int .i64 (-1)) ∧ w' = w := by
  have HX := Lib.hid hx
  have HM := Lib.hid hm
  clear hx hm
  go_enter Try.func20, Try.ntmps20
  go_wp2_with fail
  go_loop [9] (fun i => ∃ k : Nat, k ≤ n ∧ i = .int .i64 (k : Int)) (fun i => n - (intOf i).toNat)
  case atStart => exact ⟨0, by omega, rfl⟩
  case round =>
    obtain ⟨k, hk, rfl⟩ := hrel
    by_cases hlt : k < n
    · obtain ⟨b, off, y, rfl, hbl, hy, hiy, cy⟩ := HM.out.at_ hlt
      have ne : ¬ x ≤ y := by have := HX.out y (List.mem_of_getElem? hy); omega
      clear hy
      go_wp2_with fail
      go_round
      case rel => exact ⟨k + 1, by omega, by go_num⟩
      case measure => simp [intOf]; omega
    · obtain rfl : k = n := by omega
      go_wp2_with fail
      go_ret
      exact ⟨rfl, rfl⟩
set_option maxHeartbeats 2000000 in
theorem rNext_at (hm : IMem w A n l) (hn : n ≤ 9223372036854775807) {x z : Int} {p : Nat} (hp : l[p]? = some z) (hz : x ≤ z) (hf : ∀ j y, j < p → l[j]? = some y → y < x) :
    Calls Try.prog 20 #[.slice A n c, .int .i64 x] w fun e w' => e = .returned (.int .i64 (p : Int)) ∧ w' = w := by
  have hpn : p < n := by rw [← hm.1]; exact (List.getElem?_eq_some_iff.1 hp).1
  have HP := Lib.hid hp
  have HF := Lib.hid hf
  have HM := Lib.hid hm
  clear hp hf hm
  go_enter Try.func20, Try.ntmps20
  go_wp2_with fail
  go_loop [9] (fun i => ∃ k : Nat, k ≤ p ∧ i = .int .i64 (k : Int)) (fun i => n - (intOf i).toNat)
  case atStart => exact ⟨0, by omega, rfl⟩
  case round =>
    obtain ⟨k, hk, rfl⟩ := hrel
    have hkn : k < n := by omega
    obtain ⟨b, off, y, rfl, hbl, hy, hiy, cy⟩ := HM.out.at_ hkn
    by_cases hlt : k < p
    · have ne : ¬ x ≤ y := by have := HF.out k y hlt hy; omega
      clear hy
      go_wp2_with fail
      go_round
      case rel => exact ⟨k + 1, by omega, by go_num⟩
      case measure => simp [intOf]; omega
    · obtain rfl : k = p := by omega
      rw [HP.out] at hy
      cases hy
      go_wp2_with fail
      go_ret
      exact ⟨rfl, rfl⟩
/-- A round of With. -/
def WS (l : List Int) (x : Int) (k : Nat) (v : Bool) (S : List Int) : Prop := (v = false ∧ S = l.take k ∧ ∀ z ∈ l.take k, ¬ x < z) ∨ (v = true ∧ S = wi x (l.take k) ∧ ∃ z ∈ l.take k, x < z)
set_option maxHeartbeats 4000000 in
theorem rWith_is (hm : IMem w A n l) (hn : n ≤ 1000000) {x : Int} (hw : B64 x) {R : List Int} (hR : R = wi x l) :
    Calls Try.prog 27 #[.slice A n c, .int .i64 x] w fun e w' => ∃ C k, e = .returned (.slice C (n + 1) k) ∧ IOwn w.heap.size w' C (n + 1) k R ∧ Gr w w' := by
  obtain ⟨i0, hi0, hz0, hz1, hz2⟩ := info_parts infoInt
  have HZ := Lib.hid hz0
  have HZ1 := Lib.hid hz1
  have HZ2 := Lib.hid hz2
  have HI0 := Lib.hid hi0
  have HM := Lib.hid hm
  have HR := Lib.hid hR
  clear hz0 hz1 hz2 hi0 hm hR
  have o0 := omem_empty (enc := Value.int .i64) (ok := B64) w 3 (Nat.le_refl _)
  have g0 := (Gr.refl w).al (.cells #[] 3)
  go_enter Try.func27, Try.ntmps27
  go_wp2_with fail
  go_loopw [5, 6, 12] (fun L D i wr => ∃ (k q : Nat) (v : Bool) (C : Option Addr) (d : Nat) (S : List Int), k ≤ n ∧ i = .int .i64 (k : Int) ∧ D = .bool v ∧ L = .slice C q d ∧ q ≤ k + 1 ∧ Hid (IOwn w.heap.size wr C q d S) ∧ Hid (Gr w wr) ∧
    Hid (WS l x k v S)) (fun _ _ i _ => n - (intOf i).toNat)
  case atStart => exact ⟨0, 0, false, _, 0, [], Nat.zero_le _, rfl, rfl, rfl, by omega, Lib.hid o0, Lib.hid g0, Lib.hid (.inl ⟨rfl, by simp, by simp⟩)⟩
  case round =>
    clear o0 g0
    obtain ⟨k, q, v, C, d, S, hk, rfl, rfl, rfl, hq, HO, HG, HS⟩ := hrel
    by_cases hlt : k < n
    · obtain ⟨b, off, y, rfl, hbl, hy, hiy, cy⟩ := (HM.out.gr HG.out).at_ hlt
      have HX := Lib.hid (take_more hy)
      clear hy
      rcases HS.out with ⟨rfl, hS1, hS2⟩ | ⟨rfl, hS1, hS2⟩
      · by_cases hxy : x < y
        · have HN := Lib.hid (show WS l x (k + 1) true (S ++ [x] ++ [y]) from
            .inr ⟨rfl, by rw [HX.out, wi_pass hS2, hS1, wi, if_pos hxy]; simp, y, by rw [HX.out]; simp, hxy⟩)
          have hq' : q ≤ k := by
            have := HO.out.mem.1
            rw [← this, hS1]; exact List.length_take_le ..
          clear hS1 hS2 HS
          go_wp2_with (at_builtin; refine Mark.stop ?_)
          refine Mark.go ?_
          refine wpList_append_omem _ (Value.int .i64) B64 rfl (.tmp 23) (.tmp 25) 29 rfl (fun _ => rfl) w.heap.size 3 i0 (.int .i64 0) 8 Try.underlying29 HI0.out HZ.out HZ1.out HZ2.out rfl C q d _ rfl (HO.out.gr ((Gr.refl _).al _)) _ 1 1 [x] rfl (emem_one _ x hw _) (by unfold maxLen; omega) (by omega) (HG.out.al _).size ?_
          intro C3 k3 w3 own3 gb3
          have G3 := Lib.hid ((HG.out.al (.cells #[.int .i64 x] 3)).gb gb3 (fun k hk => (HO.out.lt k hk).1))
          clear gb3
          go_wp2_with (at_builtin; refine Mark.stop ?_)
          refine Mark.go ?_
          refine wpList_append_omem _ (Value.int .i64) B64 rfl (.tmp 27) (.tmp 29) 29 rfl (fun _ => rfl) w.heap.size 3 i0 (.int .i64 0) 8 Try.underlying29 HI0.out HZ.out HZ1.out HZ2.out rfl C3 (q + 1) k3 _ rfl (own3.gr ((Gr.refl _).al _)) _ 1 1 [y] rfl (emem_one _ y hiy _) (by unfold maxLen; omega) (by omega) (G3.out.al _).size ?_
          intro C4 k4 w4 own4 gb4
          have G4 := Lib.hid ((G3.out.al (.cells #[.int .i64 y] 3)).gb gb4 (fun k hk => (own3.lt k hk).1))
          clear gb4 own3
          go_wp2_with fail
          go_roundw
          case rel => exact ⟨k + 1, q + 1 + 1, true, C4, k4, _, by omega, by go_num, rfl, rfl, by omega, Lib.hid own4, G4, HN⟩
          case measure => simp [intOf]; omega
        · have HN := Lib.hid (show WS l x (k + 1) false (S ++ [y]) from
            .inl ⟨rfl, by rw [HX.out, hS1], fun z hz => by
              rw [HX.out] at hz
              rcases List.mem_append.1 hz with h | h
              · exact hS2 z h
              · rw [List.mem_singleton] at h; subst h; exact hxy⟩)
          have hq' : q ≤ k := by
            have := HO.out.mem.1
            rw [← this, hS1]; exact List.length_take_le ..
          clear hS1 hS2 HS
          go_wp2_with (at_builtin; refine Mark.stop ?_)
          refine Mark.go ?_
          refine wpList_append_omem _ (Value.int .i64) B64 rfl (.tmp 27) (.tmp 29) 29 rfl (fun _ => rfl) w.heap.size 3 i0 (.int .i64 0) 8 Try.underlying29 HI0.out HZ.out HZ1.out HZ2.out rfl C q d _ rfl (HO.out.gr ((Gr.refl _).al _)) _ 1 1 [y] rfl (emem_one _ y hiy _) (by unfold maxLen; omega) (by omega) (HG.out.al _).size ?_
          intro C4 k4 w4 own4 gb4
          have G4 := Lib.hid ((HG.out.al (.cells #[.int .i64 y] 3)).gb gb4 (fun k hk => (HO.out.lt k hk).1))
          clear gb4
          go_wp2_with fail
          go_roundw
          case rel => exact ⟨k + 1, q + 1, false, C4, k4, _, by omega, by go_num, rfl, rfl, by omega, Lib.hid own4, G4, HN⟩
          case measure => simp [intOf]; omega
      · have HN := Lib.hid (show WS l x (k + 1) true (S ++ [y]) from
            .inr ⟨rfl, by rw [HX.out, wi_stop hS2, hS1], by
              obtain ⟨z, hz, hxz⟩ := hS2
              exact ⟨z, by rw [HX.out]; simp [hz], hxz⟩⟩)
        clear hS1 hS2 HS
        go_wp2_with (at_builtin; refine Mark.stop ?_)
        refine Mark.go ?_
        refine wpList_append_omem _ (Value.int .i64) B64 rfl (.tmp 27) (.tmp 29) 29 rfl (fun _ => rfl) w.heap.size 3 i0 (.int .i64 0) 8 Try.underlying29 HI0.out HZ.out HZ1.out HZ2.out rfl C q d _ rfl (HO.out.gr ((Gr.refl _).al _)) _ 1 1 [y] rfl (emem_one _ y hiy _) (by unfold maxLen; omega) (by omega) (HG.out.al _).size ?_
        intro C4 k4 w4 own4 gb4
        have G4 := Lib.hid ((HG.out.al (.cells #[.int .i64 y] 3)).gb gb4 (fun k hk => (HO.out.lt k hk).1))
        clear gb4
        go_wp2_with fail
        go_roundw
        case rel => exact ⟨k + 1, q + 1, true, C4, k4, _, by omega, by go_num, rfl, rfl, by omega, Lib.hid own4, G4, HN⟩
        case measure => simp [intOf]; omega
    · obtain rfl : k = n := by omega
      have hlen := HM.out.1
      have htk : l.take k = l := by rw [← hlen, List.take_length]
      rcases HS.out with ⟨rfl, hS1, hS2⟩ | ⟨rfl, hS1, hS2⟩
      · rw [htk] at hS1 hS2
        have hRR : R = S ++ [x] := by
          rw [HR.out, hS1]
          have := wi_pass (b := []) hS2
          simpa [wi] using this
        have hqk : q = k := by rw [← HO.out.mem.1, hS1, hlen]
        subst hqk
        clear hS1 hS2 HS htk
        go_wp2_with (at_builtin; refine Mark.stop ?_)
        refine Mark.go ?_
        refine wpList_append_omem _ (Value.int .i64) B64 rfl (.tmp 34) (.tmp 36) 29 rfl (fun _ => rfl) w.heap.size 3 i0 (.int .i64 0) 8 Try.underlying29 HI0.out HZ.out HZ1.out HZ2.out rfl C q d _ rfl (HO.out.gr ((Gr.refl _).al _)) _ 1 1 [x] rfl (emem_one _ x hw _) (by unfold maxLen; omega) (by omega) (HG.out.al _).size ?_
        intro C4 k4 w4 own4 gb4
        have G4 := Lib.hid ((HG.out.al (.cells #[.int .i64 x] 3)).gb gb4 (fun k hk => (HO.out.lt k hk).1))
        have HRR := Lib.hid hRR
        clear gb4 hRR
        go_wp2_with fail
        go_ret
        exact ⟨C4, k4, rfl, HRR.out ▸ own4, G4.out⟩
      · rw [htk] at hS1
        have own := HO.out
        rw [hS1, ← HR.out] at own
        have hqk : q = k + 1 := by rw [← own.mem.1, HR.out, wi_len, hlen]
        subst hqk
        clear hS1 hS2 HS htk
        go_wp2_with fail
        go_ret
        exact ⟨C, d, rfl, own, HG.out⟩
end
end Go.Proofs.Ytpblonfcdnephaa
