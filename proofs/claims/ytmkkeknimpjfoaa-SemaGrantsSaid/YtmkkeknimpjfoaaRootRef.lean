/-
  deadboltref09: which spots and tables may be.
-/
import Derived.Test.YtmkkeknimpjfoaaRootOwn
namespace Go.Proofs.Ytmkkeknimpjfoaa
open Go.ChangeShapes Go.WideShapes Go.ChangeAt Go.RowKit
set_option linter.unusedVariables false
set_option linter.unusedSimpArgs false

set_option maxHeartbeats 1000000 in
theorem rKey_is (a : Int) {v : Bool} (hv : v = true ↔ IsKey a) (w : World) : Calls Try.prog 30 #[.int .i64 a] w fun e w' => e = .returned (.bool v) ∧ w' = w := by
  by_cases h1 : 0 ≤ a
  · by_cases h2 : a ≤ 4294967295
    · obtain rfl : v = true := hv.2 ⟨h1, h2⟩
      clear hv
      go_enter Try.func30, Try.ntmps30
      go_wp2_with fail
      go_ret
      exact ⟨rfl, rfl⟩
    · obtain rfl : v = false := by
        cases v
        · rfl
        · exact absurd (hv.1 rfl).2 h2
      have h3 : decide (a ≤ 4294967295) = false := decide_eq_false h2
      clear hv h2
      go_enter Try.func30, Try.ntmps30
      go_wp2_with fail
      go_ret
      exact ⟨rfl, rfl⟩
  · obtain rfl : v = false := by
      cases v
      · rfl
      · exact absurd (hv.1 rfl).1 h1
    have h3 : decide (0 ≤ a) = false := decide_eq_false h1
    clear hv h1
    go_enter Try.func30, Try.ntmps30
    go_wp2_with fail
    go_ret
    exact ⟨rfl, rfl⟩
set_option maxHeartbeats 1000000 in
theorem rRoot_is {a : Int} (h : IsKey a) (w : World) : Calls Try.prog 45 #[.int .i64 a] w fun e w' => e = .returned (.int .i64 (rt a)) ∧ w' = w := by
  have h3 : a.tdiv 8 = a / 8 := Int.tdiv_eq_ediv_of_nonneg h.1
  have h4 : (a / 8).tmod 251 = rt a := by rw [Int.tmod_eq_emod_of_nonneg (by have := h.1; omega)]; rfl
  have h5 : IntKind.i64.wrap (a / 8) = a / 8 := wrap_id (by have := h.1; omega) (by have := h.2; omega)
  go_enter Try.func45, Try.ntmps45
  go_wp2_with fail
  go_ret
  exact ⟨rfl, rfl⟩
section
variable {w : World} {A : Option Addr} {n c : Nat} {l : List Int} {a q : Int}
set_option maxHeartbeats 4000000 in
theorem rspot_is' (hm : IMem w A n l) (hc : n ≤ c) (hn : n ≤ 9223372036854775807) {v : Bool} (hv : v = true ↔ SOk ⟨a, q, A, n, c, l⟩) :
    Calls Try.prog 28 #[.agg #[.int .i64 a, .int .i64 q, .slice A n c]] w fun e w' => e = .returned (.bool v) ∧ Gr w w' := by
  have g0 := (Gr.refl w).al (.cells #[.int .i64 a, .int .i64 q, .slice A n c] 46)
  have hlen := hm.1
  obtain ⟨k, hk⟩ := yes_no (IsKey a)
  have KK := Lib.hid (fun W => rKey_is a hk W)
  obtain ⟨b, hb⟩ : ∃ b : Bool, (b = true ↔ L7.Ln l) := yes_no (L7.Ln l)
  have KL := Lib.hid (L7.rRight_is (c := c) (hm.gr g0) hc hn hb)
  cases k with
  | false =>
    obtain rfl : v = false := by
      cases v
      · rfl
      · exact absurd (hk.2 (hv.1 rfl).1) (by simp)
    clear hv hk hb hm hlen KL
    go_enter Try.func28, Try.ntmps28
    go_wp2_with fail
    with_reducible refine (KK.out _).mono ?_
    rintro e w1 ⟨rfl, rfl⟩
    go_wp2_with fail
    go_ret
    exact ⟨rfl, g0⟩
  | true =>
    have hkey := hk.1 rfl
    by_cases h1 : 0 ≤ q
    · by_cases h2 : q ≤ 2147483647
      · cases b with
        | false =>
          obtain rfl : v = false := by
            cases v
            · rfl
            · exact absurd (hb.2 (hv.1 rfl).2.2.2.1) (by simp)
          clear hv hk hb hm hlen hkey
          go_enter Try.func28, Try.ntmps28
          go_wp2_with fail
          with_reducible refine (KK.out _).mono ?_
          rintro e w1 ⟨rfl, rfl⟩
          go_wp2_with fail
          with_reducible refine KL.out.mono ?_
          rintro e w1 ⟨rfl, rfl⟩
          go_wp2_with fail
          go_ret
          exact ⟨rfl, g0⟩
        | true =>
          have hl := hb.1 rfl
          by_cases h3 : q = 0
          · obtain rfl : v = true := hv.2 ⟨hkey, h1, h2, hl, .inl h3⟩
            subst h3
            clear hv hk hb hm hlen hkey hl
            go_enter Try.func28, Try.ntmps28
            go_wp2_with fail
            with_reducible refine (KK.out _).mono ?_
            rintro e w1 ⟨rfl, rfl⟩
            go_wp2_with fail
            with_reducible refine KL.out.mono ?_
            rintro e w1 ⟨rfl, rfl⟩
            go_wp2_with fail
            go_ret
            exact ⟨rfl, g0⟩
          · have h3' : (q == 0) = false := beq_eq_false_iff_ne.2 h3
            by_cases h4 : n = 0
            · obtain rfl : v = true := hv.2 ⟨hkey, h1, h2, hl, .inr (List.eq_nil_of_length_eq_zero (show l.length = 0 from by omega))⟩
              subst h4
              clear hv hk hb hm hlen hkey hl h3
              go_enter Try.func28, Try.ntmps28
              go_wp2_with fail
              with_reducible refine (KK.out _).mono ?_
              rintro e w1 ⟨rfl, rfl⟩
              go_wp2_with fail
              with_reducible refine KL.out.mono ?_
              rintro e w1 ⟨rfl, rfl⟩
              go_wp2_with fail
              go_ret
              exact ⟨rfl, g0⟩
            · have h4' : ((n : Int) == 0) = false := beq_eq_false_iff_ne.2 (by omega)
              obtain rfl : v = false := by
                cases v
                · rfl
                · rcases (hv.1 rfl).2.2.2.2 with h | h
                  · exact absurd h h3
                  · rw [show l = [] from h] at hlen; exact absurd hlen.symm h4
              clear hv hk hb hm hlen hkey hl h3 h4
              go_enter Try.func28, Try.ntmps28
              go_wp2_with fail
              with_reducible refine (KK.out _).mono ?_
              rintro e w1 ⟨rfl, rfl⟩
              go_wp2_with fail
              with_reducible refine KL.out.mono ?_
              rintro e w1 ⟨rfl, rfl⟩
              go_wp2_with fail
              go_ret
              exact ⟨rfl, g0⟩
      · have h2' : decide (q ≤ 2147483647) = false := decide_eq_false h2
        obtain rfl : v = false := by
          cases v
          · rfl
          · exact absurd (hv.1 rfl).2.2.1 h2
        clear hv hk hb hm hlen hkey h2 KL
        go_enter Try.func28, Try.ntmps28
        go_wp2_with fail
        with_reducible refine (KK.out _).mono ?_
        rintro e w1 ⟨rfl, rfl⟩
        go_wp2_with fail
        go_ret
        exact ⟨rfl, g0⟩
    · have h1' : decide (0 ≤ q) = false := decide_eq_false h1
      obtain rfl : v = false := by
        cases v
        · rfl
        · exact absurd (hv.1 rfl).2.1 h1
      clear hv hk hb hm hlen hkey h1 KL
      go_enter Try.func28, Try.ntmps28
      go_wp2_with fail
      with_reducible refine (KK.out _).mono ?_
      rintro e w1 ⟨rfl, rfl⟩
      go_wp2_with fail
      go_ret
      exact ⟨rfl, g0⟩
theorem rspot_is {x : SV} (h : x.ok w) {v : Bool} (hv : v = true ↔ SOk x) :
    Calls Try.prog 28 #[.agg #[.int .i64 x.addr, .int .i64 x.cnt, .slice x.A x.n x.c]] w fun e w' => e = .returned (.bool v) ∧ Gr w w' :=
  rspot_is' h.2.2.1 h.2.2.2.1 h.lt hv
set_option maxHeartbeats 1000000 in
theorem rempty_is' (hlen : l.length = n) {v : Bool} (hv : v = true ↔ SNil ⟨a, q, A, n, c, l⟩) (w : World) :
    Calls Try.prog 22 #[.agg #[.int .i64 a, .int .i64 q, .slice A n c]] w fun e w' => e = .returned (.bool v) ∧ Gr w w' := by
  have g0 := (Gr.refl w).al (.cells #[.int .i64 a, .int .i64 q, .slice A n c] 46)
  by_cases h3 : q = 0
  · by_cases h4 : n = 0
    · obtain rfl : v = true := hv.2 ⟨h3, List.eq_nil_of_length_eq_zero (show l.length = 0 from by omega)⟩
      clear hv hlen
      subst h3 h4
      go_enter Try.func22, Try.ntmps22
      go_wp2_with fail
      go_ret
      exact ⟨rfl, g0⟩
    · obtain rfl : v = false := by
        cases v
        · rfl
        · rw [show l = [] from (hv.1 rfl).2] at hlen; exact absurd hlen.symm h4
      have h4' : ((n : Int) == 0) = false := beq_eq_false_iff_ne.2 (by omega)
      clear hv hlen h4
      subst h3
      go_enter Try.func22, Try.ntmps22
      go_wp2_with fail
      go_ret
      exact ⟨rfl, g0⟩
  · obtain rfl : v = false := by
      cases v
      · rfl
      · exact absurd (hv.1 rfl).1 h3
    have h3' : (q == 0) = false := beq_eq_false_iff_ne.2 h3
    clear hv hlen h3
    go_enter Try.func22, Try.ntmps22
    go_wp2_with fail
    go_ret
    exact ⟨rfl, g0⟩
theorem rempty_is {x : SV} (h : x.ok w) {v : Bool} (hv : v = true ↔ SNil x) (w' : World) :
    Calls Try.prog 22 #[.agg #[.int .i64 x.addr, .int .i64 x.cnt, .slice x.A x.n x.c]] w' fun e w'' => e = .returned (.bool v) ∧ Gr w' w'' :=
  rempty_is' (l := x.line) h.len hv w'
set_option maxHeartbeats 2000000 in
theorem rless_is {a b : Int} (ha : IsKey a) (hb : IsKey b) {v : Bool} (hv : v = true ↔ Lt a b) (w : World) :
    Calls Try.prog 29 #[.int .i64 a, .int .i64 b] w fun e w' => e = .returned (.bool v) ∧ w' = w := by
  have hA := fun W => rRoot_is ha W
  have hB := fun W => rRoot_is hb W
  unfold Lt at hv
  generalize rt a = r at *
  generalize rt b = s at *
  have KA := Lib.hid hA
  have KB := Lib.hid hB
  clear hA hB
  by_cases h1 : r < s
  · obtain rfl : v = true := hv.2 (.inl h1)
    clear hv
    go_enter Try.func29, Try.ntmps29
    go_wp2_with fail
    with_reducible refine (KA.out _).mono ?_
    rintro e w1 ⟨rfl, rfl⟩
    go_wp2_with fail
    with_reducible refine (KB.out _).mono ?_
    rintro e w1 ⟨rfl, rfl⟩
    go_wp2_with fail
    go_ret
    exact ⟨rfl, rfl⟩
  · have h1' : decide (r < s) = false := decide_eq_false h1
    by_cases h2 : r = s
    · subst h2
      by_cases h3 : a < b
      · obtain rfl : v = true := hv.2 (.inr ⟨rfl, h3⟩)
        clear hv
        go_enter Try.func29, Try.ntmps29
        go_wp2_with fail
        with_reducible refine (KA.out _).mono ?_
        rintro e w1 ⟨rfl, rfl⟩
        go_wp2_with fail
        with_reducible refine (KB.out _).mono ?_
        rintro e w1 ⟨rfl, rfl⟩
        go_wp2_with fail
        with_reducible refine (KA.out _).mono ?_
        rintro e w1 ⟨rfl, rfl⟩
        go_wp2_with fail
        with_reducible refine (KB.out _).mono ?_
        rintro e w1 ⟨rfl, rfl⟩
        go_wp2_with fail
        go_ret
        exact ⟨rfl, rfl⟩
      · have h3' : decide (a < b) = false := decide_eq_false h3
        obtain rfl : v = false := by
          cases v
          · rfl
          · have := hv.1 rfl; omega
        clear hv h3
        go_enter Try.func29, Try.ntmps29
        go_wp2_with fail
        with_reducible refine (KA.out _).mono ?_
        rintro e w1 ⟨rfl, rfl⟩
        go_wp2_with fail
        with_reducible refine (KB.out _).mono ?_
        rintro e w1 ⟨rfl, rfl⟩
        go_wp2_with fail
        with_reducible refine (KA.out _).mono ?_
        rintro e w1 ⟨rfl, rfl⟩
        go_wp2_with fail
        with_reducible refine (KB.out _).mono ?_
        rintro e w1 ⟨rfl, rfl⟩
        go_wp2_with fail
        go_ret
        exact ⟨rfl, rfl⟩
    · have h2' : (r == s) = false := beq_eq_false_iff_ne.2 h2
      obtain rfl : v = false := by
        cases v
        · rfl
        · have := hv.1 rfl; omega
      clear hv h2 h1
      go_enter Try.func29, Try.ntmps29
      go_wp2_with fail
      with_reducible refine (KA.out _).mono ?_
      rintro e w1 ⟨rfl, rfl⟩
      go_wp2_with fail
      with_reducible refine (KB.out _).mono ?_
      rintro e w1 ⟨rfl, rfl⟩
      go_wp2_with fail
      with_reducible refine (KA.out _).mono ?_
      rintro e w1 ⟨rfl, rfl⟩
      go_wp2_with fail
      with_reducible refine (KB.out _).mono ?_
      rintro e w1 ⟨rfl, rfl⟩
      go_wp2_with fail
      go_ret
      exact ⟨rfl, rfl⟩
end
section
variable {w : World} {A : Option Addr} {n c : Nat} {l : List SV}
set_option maxHeartbeats 8000000 in
theorem rTab_is (hm : SMem w A n l) (hn : n ≤ 1000000) {v : Bool} (hv : v = true ↔ Tab l) :
    Calls Try.prog 12 #[.slice A n c] w fun e w' => e = .returned (.bool v) ∧ Gr w w' := by
  have hlen := hm.1
  have HM := Lib.hid hm
  have HV := Lib.hid hv
  clear hm hv
  go_enter Try.func12, Try.ntmps12
  go_wp2_with fail
  go_loopw [7] (fun i wr => ∃ k : Nat, k ≤ n ∧ i = .int .i64 (k : Int) ∧ Hid (TOk (l.take k)) ∧ Hid (Gr w wr)) (fun i _ => n - (intOf i).toNat)
  case atStart => exact ⟨0, Nat.zero_le _, rfl, Lib.hid (by simpa using TOk.nil), Lib.hid (Gr.refl _)⟩
  case round =>
    obtain ⟨k, hk, rfl, HT, HG⟩ := hrel
    by_cases hlt : k < n
    · obtain ⟨b, off, x, rfl, hbl, hx, hok, d0, d1, d2⟩ := (HM.out.gr HG.out).at_ hlt
      have HX := Lib.hid hx
      have HS := Lib.hid (TOk.step hx HT.out)
      have k0 : (0 : Int) ≤ (k : Int) := by omega
      have k1 : (k : Int) < (n : Int) := by omega
      have hlx := Lib.hid hx
      obtain ⟨X, hXe⟩ : ∃ X, wr.alloc (.cells #[.int .i64 x.addr, .int .i64 x.cnt, .slice x.A x.n x.c] 46) = X := ⟨_, rfl⟩
      have gX : Gr wr X := hXe ▸ (Gr.refl wr).al _
      have ok1 := Lib.hid (hok.gr gX)
      have GX := Lib.hid (HG.out.trans gX)
      have BX : Blk X wr.heap.size #[.int .i64 x.addr, .int .i64 x.cnt, .slice x.A x.n x.c] 46 := hXe ▸ Blk.new wr _ _
      have e0 : X.drew.cell? ⟨wr.heap.size, 0, none⟩ = some (.int .i64 x.addr) := (BX.at_ (k := 0) rfl).1
      have e1 : X.drew.cell? ⟨wr.heap.size, 1, none⟩ = some (.int .i64 x.cnt) := (BX.at_ (k := 1) rfl).1
      have e2 : X.drew.cell? ⟨wr.heap.size, 2, none⟩ = some (.slice x.A x.n x.c) := (BX.at_ (k := 2) rfl).1
      have e3 : wr.heap.size < X.drew.heap.size := BX.lt
      obtain ⟨b1, hb1⟩ := yes_no (SOk x)
      obtain ⟨b2, hb2⟩ := yes_no (SNil x)
      have C1 : Hid (∀ W, Gr X W → Calls Try.prog 28 #[.agg #[.int .i64 x.addr, .int .i64 x.cnt, .slice x.A x.n x.c]] W fun e w' => e = .returned (.bool b1) ∧ Gr W w') := Lib.hid fun W g => rspot_is (ok1.out.gr g) hb1
      have C2 : Hid (∀ W, Calls Try.prog 22 #[.agg #[.int .i64 x.addr, .int .i64 x.cnt, .slice x.A x.n x.c]] W fun e w' => e = .returned (.bool b2) ∧ Gr W w') := Lib.hid fun W => rempty_is ok1.out hb2 W
      have HB1 := Lib.hid hb1
      have HB2 := Lib.hid hb2
      clear hx hok hb1 hb2
      cases b1 with
      | false =>
        obtain rfl : v = false := by
          cases v
          · rfl
          · have h1 := (HV.out.1 rfl).2.1 x (List.mem_of_getElem? HX.out)
            exact absurd (HB1.out.2 h1.1) (by simp)
        clear C2 HV
        go_wp2_with fail
        clear hXe
        refine wp_region_held_drew (S := (fun W => W.cell? ⟨wr.heap.size, 0, none⟩ = some (.int .i64 x.addr) ∧ W.cell? ⟨wr.heap.size, 1, none⟩ = some (.int .i64 x.cnt) ∧ W.cell? ⟨wr.heap.size, 2, none⟩ = some (.slice x.A x.n x.c) ∧ wr.heap.size < W.heap.size ∧ Gr X W)) (by kernel_rfl) ⟨e0, e1, e2, e3, (Gr.refl X).dr⟩ (fun hS => ?_)
        refine wpAnyH_goes 0 (v := ?_) rfl rfl (by kernel_rfl) (by kernel_rfl) (by kernel_rfl) (fun _ _ _ h => h) (by rfl) (fun w9 hw9 => ?_) hS ?_
        rotate_left
        · (try dsimp only at hw9); go_simp; try with_reducible rfl
        try simp only [Act.put, List.setIfInBounds_toArray, List.set_cons_zero, List.set_cons_succ]
        refine wpAnyH_ready (rs := [1]) (by kernel_rfl) (by simp) (AllReadyH.cons rfl (fun K hK => ?_) AllReadyH.nil)
        go_simp; go_at_call 28; with_reducible refine (C1.out _ hS.2.2.2.2).mono ?_; rintro ee w9 ⟨rfl, hb⟩; go_wp2_with fail
        refine hK.out _ _ ⟨(hb.cell (p := ⟨wr.heap.size, 0, none⟩) hS.2.2.2.1).trans hS.1, (hb.cell (p := ⟨wr.heap.size, 1, none⟩) hS.2.2.2.1).trans hS.2.1, (hb.cell (p := ⟨wr.heap.size, 2, none⟩) hS.2.2.2.1).trans hS.2.2.1, Nat.lt_of_lt_of_le hS.2.2.2.1 hb.size, Gr.trans hS.2.2.2.2 hb⟩ (fun hS => ?_)
        clear hK K
        try simp only [Act.put, List.setIfInBounds_toArray, List.set_cons_zero, List.set_cons_succ]
        refine wpAnyH_goes 2 (v := ?_) rfl rfl (by kernel_rfl) (by kernel_rfl) (by kernel_rfl) (fun _ _ _ h => h) (by rfl) (fun w9 hw9 => ?_) hS ?_
        rotate_left
        · (try dsimp only at hw9); go_simp; try with_reducible rfl
        try simp only [Act.put, List.setIfInBounds_toArray, List.set_cons_zero, List.set_cons_succ]
        refine wpAnyH_goes 3 (v := ?_) rfl rfl (by kernel_rfl) (by kernel_rfl) (by kernel_rfl) (fun _ _ _ h => h) (by rfl) (fun w9 hw9 => ?_) hS ?_
        rotate_left
        · (try dsimp only at hw9); go_simp; try with_reducible rfl
        try simp only [Act.put, List.setIfInBounds_toArray, List.set_cons_zero, List.set_cons_succ]
        refine wpAnyH_pass 4 rfl rfl (by kernel_rfl) (by kernel_rfl) (by kernel_rfl) (fun _ _ _ h => h) (by rfl) hS ?_
        try simp only [Act.put, List.setIfInBounds_toArray, List.set_cons_zero, List.set_cons_succ]
        refine wpAnyH_pass 5 rfl rfl (by kernel_rfl) (by kernel_rfl) (by kernel_rfl) (fun _ _ _ h => h) (by rfl) hS ?_
        try simp only [Act.put, List.setIfInBounds_toArray, List.set_cons_zero, List.set_cons_succ]
        refine wpAnyH_goes 6 (v := ?_) rfl rfl (by kernel_rfl) (by kernel_rfl) (by kernel_rfl) (fun _ _ _ h => h) (by rfl) (fun w9 hw9 => ?_) hS ?_
        rotate_left
        · (try dsimp only at hw9); go_simp; try with_reducible rfl
        try simp only [Act.put, List.setIfInBounds_toArray, List.set_cons_zero, List.set_cons_succ]
        refine wpAnyH_goes 7 (v := ?_) rfl rfl (by kernel_rfl) (by kernel_rfl) (by kernel_rfl) (fun _ _ _ h => h) (by rfl) (fun w9 hw9 => ?_) hS ?_
        rotate_left
        · (try dsimp only at hw9); go_simp; try with_reducible rfl
        try simp only [Act.put, List.setIfInBounds_toArray, List.set_cons_zero, List.set_cons_succ]
        refine wpAnyH_pass 8 rfl rfl (by kernel_rfl) (by kernel_rfl) (by kernel_rfl) (fun _ _ _ h => h) (by rfl) hS ?_
        try simp only [Act.put, List.setIfInBounds_toArray, List.set_cons_zero, List.set_cons_succ]
        refine wpAnyH_pass 9 rfl rfl (by kernel_rfl) (by kernel_rfl) (by kernel_rfl) (fun _ _ _ h => h) (by rfl) hS ?_
        try simp only [Act.put, List.setIfInBounds_toArray, List.set_cons_zero, List.set_cons_succ]
        refine wpAnyH_pass 10 rfl rfl (by kernel_rfl) (by kernel_rfl) (by kernel_rfl) (fun _ _ _ h => h) (by rfl) hS ?_
        try simp only [Act.put, List.setIfInBounds_toArray, List.set_cons_zero, List.set_cons_succ]
        refine wpAnyH_pass 11 rfl rfl (by kernel_rfl) (by kernel_rfl) (by kernel_rfl) (fun _ _ _ h => h) (by rfl) hS ?_
        try simp only [Act.put, List.setIfInBounds_toArray, List.set_cons_zero, List.set_cons_succ]
        refine wpAnyH_pass 12 rfl rfl (by kernel_rfl) (by kernel_rfl) (by kernel_rfl) (fun _ _ _ h => h) (by rfl) hS ?_
        try simp only [Act.put, List.setIfInBounds_toArray, List.set_cons_zero, List.set_cons_succ]
        refine wpAnyH_pass 13 rfl rfl (by kernel_rfl) (by kernel_rfl) (by kernel_rfl) (fun _ _ _ h => h) (by rfl) hS ?_
        try simp only [Act.put, List.setIfInBounds_toArray, List.set_cons_zero, List.set_cons_succ]
        refine wpAnyH_pass 14 rfl rfl (by kernel_rfl) (by kernel_rfl) (by kernel_rfl) (fun _ _ _ h => h) (by rfl) hS ?_
        try simp only [Act.put, List.setIfInBounds_toArray, List.set_cons_zero, List.set_cons_succ]
        refine wpAnyH_pass 15 rfl rfl (by kernel_rfl) (by kernel_rfl) (by kernel_rfl) (fun _ _ _ h => h) (by rfl) hS ?_
        try simp only [Act.put, List.setIfInBounds_toArray, List.set_cons_zero, List.set_cons_succ]
        refine wpAnyH_pass 16 rfl rfl (by kernel_rfl) (by kernel_rfl) (by kernel_rfl) (fun _ _ _ h => h) (by rfl) hS ?_
        try simp only [Act.put, List.setIfInBounds_toArray, List.set_cons_zero, List.set_cons_succ]
        refine wpAnyH_pass 17 rfl rfl (by kernel_rfl) (by kernel_rfl) (by kernel_rfl) (fun _ _ _ h => h) (by rfl) hS ?_
        try simp only [Act.put, List.setIfInBounds_toArray, List.set_cons_zero, List.set_cons_succ]
        refine wpAnyH_pass 18 rfl rfl (by kernel_rfl) (by kernel_rfl) (by kernel_rfl) (fun _ _ _ h => h) (by rfl) hS ?_
        try simp only [Act.put, List.setIfInBounds_toArray, List.set_cons_zero, List.set_cons_succ]
        refine wpAnyH_pass 19 rfl rfl (by kernel_rfl) (by kernel_rfl) (by kernel_rfl) (fun _ _ _ h => h) (by rfl) hS ?_
        try simp only [Act.put, List.setIfInBounds_toArray, List.set_cons_zero, List.set_cons_succ]
        refine wpAnyH_pass 20 rfl rfl (by kernel_rfl) (by kernel_rfl) (by kernel_rfl) (fun _ _ _ h => h) (by rfl) hS ?_
        try simp only [Act.put, List.setIfInBounds_toArray, List.set_cons_zero, List.set_cons_succ]
        refine wpAnyH_pass 21 rfl rfl (by kernel_rfl) (by kernel_rfl) (by kernel_rfl) (fun _ _ _ h => h) (by rfl) hS ?_
        try simp only [Act.put, List.setIfInBounds_toArray, List.set_cons_zero, List.set_cons_succ]
        refine wpAnyH_goes 22 (v := ?_) rfl rfl (by kernel_rfl) (by kernel_rfl) (by kernel_rfl) (fun _ _ _ h => h) (by rfl) (fun w9 hw9 => ?_) hS ?_
        rotate_left
        · (try dsimp only at hw9); go_simp; try with_reducible rfl
        try simp only [Act.put, List.setIfInBounds_toArray, List.set_cons_zero, List.set_cons_succ]
        refine wpAnyH_done (by kernel_rfl) ?_ _
        obtain ⟨q0, q1, q2, q3, q4⟩ := hS
        have GF := Lib.hid (GX.out.trans q4)
        clear q0 q1 q2 q3 q4
        go_wp2_with fail
        go_ret
        exact ⟨rfl, GF.out⟩
      | true =>
        cases b2 with
        | true =>
          obtain rfl : v = false := by
            cases v
            · rfl
            · have h1 := (HV.out.1 rfl).2.1 x (List.mem_of_getElem? HX.out)
              exact absurd (HB2.out.1 rfl) h1.2
          clear HV
          go_wp2_with fail
          clear hXe
          refine wp_region_held_drew (S := (fun W => W.cell? ⟨wr.heap.size, 0, none⟩ = some (.int .i64 x.addr) ∧ W.cell? ⟨wr.heap.size, 1, none⟩ = some (.int .i64 x.cnt) ∧ W.cell? ⟨wr.heap.size, 2, none⟩ = some (.slice x.A x.n x.c) ∧ wr.heap.size < W.heap.size ∧ Gr X W)) (by kernel_rfl) ⟨e0, e1, e2, e3, (Gr.refl X).dr⟩ (fun hS => ?_)
          refine wpAnyH_goes 0 (v := ?_) rfl rfl (by kernel_rfl) (by kernel_rfl) (by kernel_rfl) (fun _ _ _ h => h) (by rfl) (fun w9 hw9 => ?_) hS ?_
          rotate_left
          · (try dsimp only at hw9); go_simp; try with_reducible rfl
          try simp only [Act.put, List.setIfInBounds_toArray, List.set_cons_zero, List.set_cons_succ]
          refine wpAnyH_ready (rs := [1]) (by kernel_rfl) (by simp) (AllReadyH.cons rfl (fun K hK => ?_) AllReadyH.nil)
          go_simp; go_at_call 28; with_reducible refine (C1.out _ hS.2.2.2.2).mono ?_; rintro ee w9 ⟨rfl, hb⟩; go_wp2_with fail
          refine hK.out _ _ ⟨(hb.cell (p := ⟨wr.heap.size, 0, none⟩) hS.2.2.2.1).trans hS.1, (hb.cell (p := ⟨wr.heap.size, 1, none⟩) hS.2.2.2.1).trans hS.2.1, (hb.cell (p := ⟨wr.heap.size, 2, none⟩) hS.2.2.2.1).trans hS.2.2.1, Nat.lt_of_lt_of_le hS.2.2.2.1 hb.size, Gr.trans hS.2.2.2.2 hb⟩ (fun hS => ?_)
          clear hK K
          try simp only [Act.put, List.setIfInBounds_toArray, List.set_cons_zero, List.set_cons_succ]
          refine wpAnyH_goes 2 (v := ?_) rfl rfl (by kernel_rfl) (by kernel_rfl) (by kernel_rfl) (fun _ _ _ h => h) (by rfl) (fun w9 hw9 => ?_) hS ?_
          rotate_left
          · (try dsimp only at hw9); go_simp; try with_reducible rfl
          try simp only [Act.put, List.setIfInBounds_toArray, List.set_cons_zero, List.set_cons_succ]
          refine wpAnyH_goes 3 (v := ?_) rfl rfl (by kernel_rfl) (by kernel_rfl) (by kernel_rfl) (fun _ _ _ h => h) (by rfl) (fun w9 hw9 => ?_) hS ?_
          rotate_left
          · (try dsimp only at hw9); go_simp; try with_reducible rfl
          try simp only [Act.put, List.setIfInBounds_toArray, List.set_cons_zero, List.set_cons_succ]
          refine wpAnyH_goes 4 (v := ?_) rfl rfl (by kernel_rfl) (by kernel_rfl) (by kernel_rfl) (fun _ _ _ h => h) (by rfl) (fun w9 hw9 => ?_) hS ?_
          rotate_left
          · (try dsimp only at hw9); go_simp; try with_reducible rfl
          try simp only [Act.put, List.setIfInBounds_toArray, List.set_cons_zero, List.set_cons_succ]
          refine wpAnyH_ready (rs := [5]) (by kernel_rfl) (by simp) (AllReadyH.cons rfl (fun K hK => ?_) AllReadyH.nil)
          go_simp; go_at_call 22; with_reducible refine (C2.out _).mono ?_; rintro ee w9 ⟨rfl, hb⟩; go_wp2_with fail
          refine hK.out _ _ ⟨(hb.cell (p := ⟨wr.heap.size, 0, none⟩) hS.2.2.2.1).trans hS.1, (hb.cell (p := ⟨wr.heap.size, 1, none⟩) hS.2.2.2.1).trans hS.2.1, (hb.cell (p := ⟨wr.heap.size, 2, none⟩) hS.2.2.2.1).trans hS.2.2.1, Nat.lt_of_lt_of_le hS.2.2.2.1 hb.size, Gr.trans hS.2.2.2.2 hb⟩ (fun hS => ?_)
          clear hK K
          try simp only [Act.put, List.setIfInBounds_toArray, List.set_cons_zero, List.set_cons_succ]
          refine wpAnyH_goes 6 (v := ?_) rfl rfl (by kernel_rfl) (by kernel_rfl) (by kernel_rfl) (fun _ _ _ h => h) (by rfl) (fun w9 hw9 => ?_) hS ?_
          rotate_left
          · (try dsimp only at hw9); go_simp; try with_reducible rfl
          try simp only [Act.put, List.setIfInBounds_toArray, List.set_cons_zero, List.set_cons_succ]
          refine wpAnyH_goes 7 (v := ?_) rfl rfl (by kernel_rfl) (by kernel_rfl) (by kernel_rfl) (fun _ _ _ h => h) (by rfl) (fun w9 hw9 => ?_) hS ?_
          rotate_left
          · (try dsimp only at hw9); go_simp; try with_reducible rfl
          try simp only [Act.put, List.setIfInBounds_toArray, List.set_cons_zero, List.set_cons_succ]
          refine wpAnyH_pass 8 rfl rfl (by kernel_rfl) (by kernel_rfl) (by kernel_rfl) (fun _ _ _ h => h) (by rfl) hS ?_
          try simp only [Act.put, List.setIfInBounds_toArray, List.set_cons_zero, List.set_cons_succ]
          refine wpAnyH_pass 9 rfl rfl (by kernel_rfl) (by kernel_rfl) (by kernel_rfl) (fun _ _ _ h => h) (by rfl) hS ?_
          try simp only [Act.put, List.setIfInBounds_toArray, List.set_cons_zero, List.set_cons_succ]
          refine wpAnyH_pass 10 rfl rfl (by kernel_rfl) (by kernel_rfl) (by kernel_rfl) (fun _ _ _ h => h) (by rfl) hS ?_
          try simp only [Act.put, List.setIfInBounds_toArray, List.set_cons_zero, List.set_cons_succ]
          refine wpAnyH_pass 11 rfl rfl (by kernel_rfl) (by kernel_rfl) (by kernel_rfl) (fun _ _ _ h => h) (by rfl) hS ?_
          try simp only [Act.put, List.setIfInBounds_toArray, List.set_cons_zero, List.set_cons_succ]
          refine wpAnyH_pass 12 rfl rfl (by kernel_rfl) (by kernel_rfl) (by kernel_rfl) (fun _ _ _ h => h) (by rfl) hS ?_
          try simp only [Act.put, List.setIfInBounds_toArray, List.set_cons_zero, List.set_cons_succ]
          refine wpAnyH_pass 13 rfl rfl (by kernel_rfl) (by kernel_rfl) (by kernel_rfl) (fun _ _ _ h => h) (by rfl) hS ?_
          try simp only [Act.put, List.setIfInBounds_toArray, List.set_cons_zero, List.set_cons_succ]
          refine wpAnyH_pass 14 rfl rfl (by kernel_rfl) (by kernel_rfl) (by kernel_rfl) (fun _ _ _ h => h) (by rfl) hS ?_
          try simp only [Act.put, List.setIfInBounds_toArray, List.set_cons_zero, List.set_cons_succ]
          refine wpAnyH_pass 15 rfl rfl (by kernel_rfl) (by kernel_rfl) (by kernel_rfl) (fun _ _ _ h => h) (by rfl) hS ?_
          try simp only [Act.put, List.setIfInBounds_toArray, List.set_cons_zero, List.set_cons_succ]
          refine wpAnyH_pass 16 rfl rfl (by kernel_rfl) (by kernel_rfl) (by kernel_rfl) (fun _ _ _ h => h) (by rfl) hS ?_
          try simp only [Act.put, List.setIfInBounds_toArray, List.set_cons_zero, List.set_cons_succ]
          refine wpAnyH_pass 17 rfl rfl (by kernel_rfl) (by kernel_rfl) (by kernel_rfl) (fun _ _ _ h => h) (by rfl) hS ?_
          try simp only [Act.put, List.setIfInBounds_toArray, List.set_cons_zero, List.set_cons_succ]
          refine wpAnyH_pass 18 rfl rfl (by kernel_rfl) (by kernel_rfl) (by kernel_rfl) (fun _ _ _ h => h) (by rfl) hS ?_
          try simp only [Act.put, List.setIfInBounds_toArray, List.set_cons_zero, List.set_cons_succ]
          refine wpAnyH_pass 19 rfl rfl (by kernel_rfl) (by kernel_rfl) (by kernel_rfl) (fun _ _ _ h => h) (by rfl) hS ?_
          try simp only [Act.put, List.setIfInBounds_toArray, List.set_cons_zero, List.set_cons_succ]
          refine wpAnyH_pass 20 rfl rfl (by kernel_rfl) (by kernel_rfl) (by kernel_rfl) (fun _ _ _ h => h) (by rfl) hS ?_
          try simp only [Act.put, List.setIfInBounds_toArray, List.set_cons_zero, List.set_cons_succ]
          refine wpAnyH_pass 21 rfl rfl (by kernel_rfl) (by kernel_rfl) (by kernel_rfl) (fun _ _ _ h => h) (by rfl) hS ?_
          try simp only [Act.put, List.setIfInBounds_toArray, List.set_cons_zero, List.set_cons_succ]
          refine wpAnyH_goes 22 (v := ?_) rfl rfl (by kernel_rfl) (by kernel_rfl) (by kernel_rfl) (fun _ _ _ h => h) (by rfl) (fun w9 hw9 => ?_) hS ?_
          rotate_left
          · (try dsimp only at hw9); go_simp; try with_reducible rfl
          try simp only [Act.put, List.setIfInBounds_toArray, List.set_cons_zero, List.set_cons_succ]
          refine wpAnyH_done (by kernel_rfl) ?_ _
          obtain ⟨q0, q1, q2, q3, q4⟩ := hS
          have GF := Lib.hid (GX.out.trans q4)
          clear q0 q1 q2 q3 q4
          go_wp2_with fail
          go_ret
          exact ⟨rfl, GF.out⟩
        | false =>
          cases k with
          | zero =>
            simp only [Nat.zero_mul, Nat.add_zero] at d0 d1 d2
            have HT' : Hid (TOk (l.take (0 + 1))) := Lib.hid (HS.out.2 ⟨HB1.out.1 rfl, fun h => absurd (HB2.out.2 h) (by simp), fun p y hp => absurd hp (by omega)⟩)
            go_wp2_with fail
            clear hXe
            refine wp_region_held_drew (S := (fun W => W.cell? ⟨wr.heap.size, 0, none⟩ = some (.int .i64 x.addr) ∧ W.cell? ⟨wr.heap.size, 1, none⟩ = some (.int .i64 x.cnt) ∧ W.cell? ⟨wr.heap.size, 2, none⟩ = some (.slice x.A x.n x.c) ∧ wr.heap.size < W.heap.size ∧ Gr X W)) (by kernel_rfl) ⟨e0, e1, e2, e3, (Gr.refl X).dr⟩ (fun hS => ?_)
            refine wpAnyH_goes 0 (v := ?_) rfl rfl (by kernel_rfl) (by kernel_rfl) (by kernel_rfl) (fun _ _ _ h => h) (by rfl) (fun w9 hw9 => ?_) hS ?_
            rotate_left
            · (try dsimp only at hw9); go_simp; try with_reducible rfl
            try simp only [Act.put, List.setIfInBounds_toArray, List.set_cons_zero, List.set_cons_succ]
            refine wpAnyH_ready (rs := [1]) (by kernel_rfl) (by simp) (AllReadyH.cons rfl (fun K hK => ?_) AllReadyH.nil)
            go_simp; go_at_call 28; with_reducible refine (C1.out _ hS.2.2.2.2).mono ?_; rintro ee w9 ⟨rfl, hb⟩; go_wp2_with fail
            refine hK.out _ _ ⟨(hb.cell (p := ⟨wr.heap.size, 0, none⟩) hS.2.2.2.1).trans hS.1, (hb.cell (p := ⟨wr.heap.size, 1, none⟩) hS.2.2.2.1).trans hS.2.1, (hb.cell (p := ⟨wr.heap.size, 2, none⟩) hS.2.2.2.1).trans hS.2.2.1, Nat.lt_of_lt_of_le hS.2.2.2.1 hb.size, Gr.trans hS.2.2.2.2 hb⟩ (fun hS => ?_)
            clear hK K
            try simp only [Act.put, List.setIfInBounds_toArray, List.set_cons_zero, List.set_cons_succ]
            refine wpAnyH_goes 2 (v := ?_) rfl rfl (by kernel_rfl) (by kernel_rfl) (by kernel_rfl) (fun _ _ _ h => h) (by rfl) (fun w9 hw9 => ?_) hS ?_
            rotate_left
            · (try dsimp only at hw9); go_simp; try with_reducible rfl
            try simp only [Act.put, List.setIfInBounds_toArray, List.set_cons_zero, List.set_cons_succ]
            refine wpAnyH_goes 3 (v := ?_) rfl rfl (by kernel_rfl) (by kernel_rfl) (by kernel_rfl) (fun _ _ _ h => h) (by rfl) (fun w9 hw9 => ?_) hS ?_
            rotate_left
            · (try dsimp only at hw9); go_simp; try with_reducible rfl
            try simp only [Act.put, List.setIfInBounds_toArray, List.set_cons_zero, List.set_cons_succ]
            refine wpAnyH_goes 4 (v := ?_) rfl rfl (by kernel_rfl) (by kernel_rfl) (by kernel_rfl) (fun _ _ _ h => h) (by rfl) (fun w9 hw9 => ?_) hS ?_
            rotate_left
            · (try dsimp only at hw9); go_simp; try with_reducible rfl
            try simp only [Act.put, List.setIfInBounds_toArray, List.set_cons_zero, List.set_cons_succ]
            refine wpAnyH_ready (rs := [5]) (by kernel_rfl) (by simp) (AllReadyH.cons rfl (fun K hK => ?_) AllReadyH.nil)
            go_simp; go_at_call 22; with_reducible refine (C2.out _).mono ?_; rintro ee w9 ⟨rfl, hb⟩; go_wp2_with fail
            refine hK.out _ _ ⟨(hb.cell (p := ⟨wr.heap.size, 0, none⟩) hS.2.2.2.1).trans hS.1, (hb.cell (p := ⟨wr.heap.size, 1, none⟩) hS.2.2.2.1).trans hS.2.1, (hb.cell (p := ⟨wr.heap.size, 2, none⟩) hS.2.2.2.1).trans hS.2.2.1, Nat.lt_of_lt_of_le hS.2.2.2.1 hb.size, Gr.trans hS.2.2.2.2 hb⟩ (fun hS => ?_)
            clear hK K
            try simp only [Act.put, List.setIfInBounds_toArray, List.set_cons_zero, List.set_cons_succ]
            refine wpAnyH_goes 6 (v := ?_) rfl rfl (by kernel_rfl) (by kernel_rfl) (by kernel_rfl) (fun _ _ _ h => h) (by rfl) (fun w9 hw9 => ?_) hS ?_
            rotate_left
            · (try dsimp only at hw9); go_simp; try with_reducible rfl
            try simp only [Act.put, List.setIfInBounds_toArray, List.set_cons_zero, List.set_cons_succ]
            refine wpAnyH_goes 7 (v := ?_) rfl rfl (by kernel_rfl) (by kernel_rfl) (by kernel_rfl) (fun _ _ _ h => h) (by rfl) (fun w9 hw9 => ?_) hS ?_
            rotate_left
            · (try dsimp only at hw9); go_simp; try with_reducible rfl
            try simp only [Act.put, List.setIfInBounds_toArray, List.set_cons_zero, List.set_cons_succ]
            refine wpAnyH_goes 8 (v := ?_) rfl rfl (by kernel_rfl) (by kernel_rfl) (by kernel_rfl) (fun _ _ _ h => h) (by rfl) (fun w9 hw9 => ?_) hS ?_
            rotate_left
            · (try dsimp only at hw9); go_simp; try with_reducible rfl
            try simp only [Act.put, List.setIfInBounds_toArray, List.set_cons_zero, List.set_cons_succ]
            refine wpAnyH_goes 9 (v := ?_) rfl rfl (by kernel_rfl) (by kernel_rfl) (by kernel_rfl) (fun _ _ _ h => h) (by rfl) (fun w9 hw9 => ?_) hS ?_
            rotate_left
            · (try dsimp only at hw9); go_simp; try with_reducible rfl
            try simp only [Act.put, List.setIfInBounds_toArray, List.set_cons_zero, List.set_cons_succ]
            refine wpAnyH_goes 10 (v := ?_) rfl rfl (by kernel_rfl) (by kernel_rfl) (by kernel_rfl) (fun _ _ _ h => h) (by rfl) (fun w9 hw9 => ?_) hS ?_
            rotate_left
            · (try dsimp only at hw9); go_simp; try with_reducible rfl
            try simp only [Act.put, List.setIfInBounds_toArray, List.set_cons_zero, List.set_cons_succ]
            refine wpAnyH_pass 11 rfl rfl (by kernel_rfl) (by kernel_rfl) (by kernel_rfl) (fun _ _ _ h => h) (by rfl) hS ?_
            try simp only [Act.put, List.setIfInBounds_toArray, List.set_cons_zero, List.set_cons_succ]
            refine wpAnyH_pass 12 rfl rfl (by kernel_rfl) (by kernel_rfl) (by kernel_rfl) (fun _ _ _ h => h) (by rfl) hS ?_
            try simp only [Act.put, List.setIfInBounds_toArray, List.set_cons_zero, List.set_cons_succ]
            refine wpAnyH_pass 13 rfl rfl (by kernel_rfl) (by kernel_rfl) (by kernel_rfl) (fun _ _ _ h => h) (by rfl) hS ?_
            try simp only [Act.put, List.setIfInBounds_toArray, List.set_cons_zero, List.set_cons_succ]
            refine wpAnyH_pass 14 rfl rfl (by kernel_rfl) (by kernel_rfl) (by kernel_rfl) (fun _ _ _ h => h) (by rfl) hS ?_
            try simp only [Act.put, List.setIfInBounds_toArray, List.set_cons_zero, List.set_cons_succ]
            refine wpAnyH_pass 15 rfl rfl (by kernel_rfl) (by kernel_rfl) (by kernel_rfl) (fun _ _ _ h => h) (by rfl) hS ?_
            try simp only [Act.put, List.setIfInBounds_toArray, List.set_cons_zero, List.set_cons_succ]
            refine wpAnyH_pass 16 rfl rfl (by kernel_rfl) (by kernel_rfl) (by kernel_rfl) (fun _ _ _ h => h) (by rfl) hS ?_
            try simp only [Act.put, List.setIfInBounds_toArray, List.set_cons_zero, List.set_cons_succ]
            refine wpAnyH_pass 17 rfl rfl (by kernel_rfl) (by kernel_rfl) (by kernel_rfl) (fun _ _ _ h => h) (by rfl) hS ?_
            try simp only [Act.put, List.setIfInBounds_toArray, List.set_cons_zero, List.set_cons_succ]
            refine wpAnyH_pass 18 rfl rfl (by kernel_rfl) (by kernel_rfl) (by kernel_rfl) (fun _ _ _ h => h) (by rfl) hS ?_
            try simp only [Act.put, List.setIfInBounds_toArray, List.set_cons_zero, List.set_cons_succ]
            refine wpAnyH_pass 19 rfl rfl (by kernel_rfl) (by kernel_rfl) (by kernel_rfl) (fun _ _ _ h => h) (by rfl) hS ?_
            try simp only [Act.put, List.setIfInBounds_toArray, List.set_cons_zero, List.set_cons_succ]
            refine wpAnyH_pass 20 rfl rfl (by kernel_rfl) (by kernel_rfl) (by kernel_rfl) (fun _ _ _ h => h) (by rfl) hS ?_
            try simp only [Act.put, List.setIfInBounds_toArray, List.set_cons_zero, List.set_cons_succ]
            refine wpAnyH_goes 21 (v := ?_) rfl rfl (by kernel_rfl) (by kernel_rfl) (by kernel_rfl) (fun _ _ _ h => h) (by rfl) (fun w9 hw9 => ?_) hS ?_
            rotate_left
            · (try dsimp only at hw9); go_simp; try with_reducible rfl
            try simp only [Act.put, List.setIfInBounds_toArray, List.set_cons_zero, List.set_cons_succ]
            refine wpAnyH_goes 22 (v := ?_) rfl rfl (by kernel_rfl) (by kernel_rfl) (by kernel_rfl) (fun _ _ _ h => h) (by rfl) (fun w9 hw9 => ?_) hS ?_
            rotate_left
            · (try dsimp only at hw9); go_simp; try with_reducible rfl
            try simp only [Act.put, List.setIfInBounds_toArray, List.set_cons_zero, List.set_cons_succ]
            refine wpAnyH_done (by kernel_rfl) ?_ _
            obtain ⟨q0, q1, q2, q3, q4⟩ := hS
            have GF := Lib.hid (GX.out.trans q4)
            clear q0 q1 q2 q3 q4
            go_wp2_with fail
            go_roundw
            case rel => exact ⟨0 + 1, by omega, by go_num, HT', GF⟩
            case measure => simp [intOf]; omega
          | succ p =>
            obtain ⟨k, hkp⟩ : ∃ k, p + 1 = k := ⟨_, rfl⟩
            rw [hkp] at hk HT hlt d0 d1 d2 HX HS k0 k1 hlx ⊢
            obtain ⟨b', off', y, hb', _, hy, _, f0, _, _⟩ := (HM.out.gr HG.out).at_ (show p < n by omega)
            cases hb'
            have hw : IntKind.i64.wrap ((k : Int) - 1) = (p : Int) := by rw [wrap_id (by omega) (by omega)]; omega
            have p0 : (0 : Int) ≤ (p : Int) := by omega
            have p1 : (p : Int) < (n : Int) := by omega
            have p2 : (0 : Int) < (k : Int) := by omega
            have f1 : X.drew.cell? ⟨b, off + p * 3, none⟩ = some (.int .i64 y.addr) := (gX.cell (p := ⟨b, off + p * 3, none⟩) hbl).trans f0
            have f2 : b < X.drew.heap.size := Nat.lt_of_lt_of_le hbl gX.size
            have hyk : y ∈ l.take k := List.mem_iff_getElem?.2 ⟨p, by rw [List.getElem?_take, if_pos (by omega)]; exact hy⟩
            obtain ⟨b3, hb3⟩ := yes_no (Lt y.addr x.addr)
            have C3 : Hid (∀ W, Calls Try.prog 29 #[.int .i64 y.addr, .int .i64 x.addr] W fun e w' => e = .returned (.bool b3) ∧ w' = W) := Lib.hid fun W => rless_is (Tab.key HT.out hyk) (HB1.out.1 rfl).1 hb3 W
            have HB3 := Lib.hid hb3
            have HY := Lib.hid hy
            clear hy hyk hb3 f0
            cases b3 with
            | true =>
              have HT' : Hid (TOk (l.take (k + 1))) := Lib.hid (HS.out.2 ⟨HB1.out.1 rfl, fun h => absurd (HB2.out.2 h) (by simp), fun p' y' hp hy' => by
                obtain rfl : p' = p := by omega
                rw [HY.out] at hy'
                cases hy'
                exact HB3.out.1 rfl⟩)
              go_wp2_with fail
              clear hXe
              refine wp_region_held_drew (S := (fun W => W.cell? ⟨wr.heap.size, 0, none⟩ = some (.int .i64 x.addr) ∧ W.cell? ⟨wr.heap.size, 1, none⟩ = some (.int .i64 x.cnt) ∧ W.cell? ⟨wr.heap.size, 2, none⟩ = some (.slice x.A x.n x.c) ∧ wr.heap.size < W.heap.size ∧ Gr X W ∧ W.cell? ⟨b, off + p * 3, none⟩ = some (.int .i64 y.addr) ∧ b < W.heap.size)) (by kernel_rfl) ⟨e0, e1, e2, e3, (Gr.refl X).dr, f1, f2⟩ (fun hS => ?_)
              refine wpAnyH_goes 0 (v := ?_) rfl rfl (by kernel_rfl) (by kernel_rfl) (by kernel_rfl) (fun _ _ _ h => h) (by rfl) (fun w9 hw9 => ?_) hS ?_
              rotate_left
              · (try dsimp only at hw9); go_simp; try with_reducible rfl
              try simp only [Act.put, List.setIfInBounds_toArray, List.set_cons_zero, List.set_cons_succ]
              refine wpAnyH_ready (rs := [1]) (by kernel_rfl) (by simp) (AllReadyH.cons rfl (fun K hK => ?_) AllReadyH.nil)
              go_simp; go_at_call 28; with_reducible refine (C1.out _ hS.2.2.2.2.1).mono ?_; rintro ee w9 ⟨rfl, hb⟩; go_wp2_with fail
              refine hK.out _ _ ⟨(hb.cell (p := ⟨wr.heap.size, 0, none⟩) hS.2.2.2.1).trans hS.1, (hb.cell (p := ⟨wr.heap.size, 1, none⟩) hS.2.2.2.1).trans hS.2.1, (hb.cell (p := ⟨wr.heap.size, 2, none⟩) hS.2.2.2.1).trans hS.2.2.1, Nat.lt_of_lt_of_le hS.2.2.2.1 hb.size, Gr.trans hS.2.2.2.2.1 hb, (hb.cell (p := ⟨b, off + p * 3, none⟩) hS.2.2.2.2.2.2).trans hS.2.2.2.2.2.1, Nat.lt_of_lt_of_le hS.2.2.2.2.2.2 hb.size⟩ (fun hS => ?_)
              clear hK K
              try simp only [Act.put, List.setIfInBounds_toArray, List.set_cons_zero, List.set_cons_succ]
              refine wpAnyH_goes 2 (v := ?_) rfl rfl (by kernel_rfl) (by kernel_rfl) (by kernel_rfl) (fun _ _ _ h => h) (by rfl) (fun w9 hw9 => ?_) hS ?_
              rotate_left
              · (try dsimp only at hw9); go_simp; try with_reducible rfl
              try simp only [Act.put, List.setIfInBounds_toArray, List.set_cons_zero, List.set_cons_succ]
              refine wpAnyH_goes 3 (v := ?_) rfl rfl (by kernel_rfl) (by kernel_rfl) (by kernel_rfl) (fun _ _ _ h => h) (by rfl) (fun w9 hw9 => ?_) hS ?_
              rotate_left
              · (try dsimp only at hw9); go_simp; try with_reducible rfl
              try simp only [Act.put, List.setIfInBounds_toArray, List.set_cons_zero, List.set_cons_succ]
              refine wpAnyH_goes 4 (v := ?_) rfl rfl (by kernel_rfl) (by kernel_rfl) (by kernel_rfl) (fun _ _ _ h => h) (by rfl) (fun w9 hw9 => ?_) hS ?_
              rotate_left
              · (try dsimp only at hw9); go_simp; try with_reducible rfl
              try simp only [Act.put, List.setIfInBounds_toArray, List.set_cons_zero, List.set_cons_succ]
              refine wpAnyH_ready (rs := [5]) (by kernel_rfl) (by simp) (AllReadyH.cons rfl (fun K hK => ?_) AllReadyH.nil)
              go_simp; go_at_call 22; with_reducible refine (C2.out _).mono ?_; rintro ee w9 ⟨rfl, hb⟩; go_wp2_with fail
              refine hK.out _ _ ⟨(hb.cell (p := ⟨wr.heap.size, 0, none⟩) hS.2.2.2.1).trans hS.1, (hb.cell (p := ⟨wr.heap.size, 1, none⟩) hS.2.2.2.1).trans hS.2.1, (hb.cell (p := ⟨wr.heap.size, 2, none⟩) hS.2.2.2.1).trans hS.2.2.1, Nat.lt_of_lt_of_le hS.2.2.2.1 hb.size, Gr.trans hS.2.2.2.2.1 hb, (hb.cell (p := ⟨b, off + p * 3, none⟩) hS.2.2.2.2.2.2).trans hS.2.2.2.2.2.1, Nat.lt_of_lt_of_le hS.2.2.2.2.2.2 hb.size⟩ (fun hS => ?_)
              clear hK K
              try simp only [Act.put, List.setIfInBounds_toArray, List.set_cons_zero, List.set_cons_succ]
              refine wpAnyH_goes 6 (v := ?_) rfl rfl (by kernel_rfl) (by kernel_rfl) (by kernel_rfl) (fun _ _ _ h => h) (by rfl) (fun w9 hw9 => ?_) hS ?_
              rotate_left
              · (try dsimp only at hw9); go_simp; try with_reducible rfl
              try simp only [Act.put, List.setIfInBounds_toArray, List.set_cons_zero, List.set_cons_succ]
              refine wpAnyH_goes 7 (v := ?_) rfl rfl (by kernel_rfl) (by kernel_rfl) (by kernel_rfl) (fun _ _ _ h => h) (by rfl) (fun w9 hw9 => ?_) hS ?_
              rotate_left
              · (try dsimp only at hw9); go_simp; try with_reducible rfl
              try simp only [Act.put, List.setIfInBounds_toArray, List.set_cons_zero, List.set_cons_succ]
              refine wpAnyH_goes 8 (v := ?_) rfl rfl (by kernel_rfl) (by kernel_rfl) (by kernel_rfl) (fun _ _ _ h => h) (by rfl) (fun w9 hw9 => ?_) hS ?_
              rotate_left
              · (try dsimp only at hw9); go_simp; try with_reducible rfl
              try simp only [Act.put, List.setIfInBounds_toArray, List.set_cons_zero, List.set_cons_succ]
              refine wpAnyH_goes 9 (v := .bool true) rfl rfl (by kernel_rfl) (by kernel_rfl) (by kernel_rfl) (fun _ _ _ h => h) (by rfl) (fun w9 hw9 => ?_) hS ?_
              · (try dsimp only at hw9); go_simp; first | done | omega | (simp [*]; done) | (simp; omega)
              try simp only [Act.put, List.setIfInBounds_toArray, List.set_cons_zero, List.set_cons_succ]
              refine wpAnyH_goes 10 (v := ?_) rfl rfl (by kernel_rfl) (by kernel_rfl) (by kernel_rfl) (fun _ _ _ h => h) (by rfl) (fun w9 hw9 => ?_) hS ?_
              rotate_left
              · (try dsimp only at hw9); go_simp; try with_reducible rfl
              try simp only [Act.put, List.setIfInBounds_toArray, List.set_cons_zero, List.set_cons_succ]
              refine wpAnyH_goes 11 (v := ?_) rfl rfl (by kernel_rfl) (by kernel_rfl) (by kernel_rfl) (fun _ _ _ h => h) (by rfl) (fun w9 hw9 => ?_) hS ?_
              rotate_left
              · (try dsimp only at hw9); go_simp; try with_reducible rfl
              try simp only [Act.put, List.setIfInBounds_toArray, List.set_cons_zero, List.set_cons_succ]
              refine wpAnyH_goes 12 (v := ?_) rfl rfl (by kernel_rfl) (by kernel_rfl) (by kernel_rfl) (fun _ _ _ h => h) (by rfl) (fun w9 hw9 => ?_) hS ?_
              rotate_left
              · (try dsimp only at hw9); go_simp; try with_reducible rfl
              try simp only [Act.put, List.setIfInBounds_toArray, List.set_cons_zero, List.set_cons_succ]
              refine wpAnyH_goes 13 (v := ?_) rfl rfl (by kernel_rfl) (by kernel_rfl) (by kernel_rfl) (fun _ _ _ h => h) (by rfl) (fun w9 hw9 => ?_) hS ?_
              rotate_left
              · (try dsimp only at hw9); go_simp; try with_reducible rfl
              try simp only [Act.put, List.setIfInBounds_toArray, List.set_cons_zero, List.set_cons_succ]
              refine wpAnyH_goes 14 (v := ?_) rfl rfl (by kernel_rfl) (by kernel_rfl) (by kernel_rfl) (fun _ _ _ h => h) (by rfl) (fun w9 hw9 => ?_) hS ?_
              rotate_left
              · (try dsimp only at hw9); go_simp; try with_reducible rfl
              try simp only [Act.put, List.setIfInBounds_toArray, List.set_cons_zero, List.set_cons_succ]
              refine wpAnyH_goes 15 (v := ?_) rfl rfl (by kernel_rfl) (by kernel_rfl) (by kernel_rfl) (fun _ _ _ h => h) (by rfl) (fun w9 hw9 => ?_) hS ?_
              rotate_left
              · (try dsimp only at hw9); go_simp; try with_reducible rfl
              try simp only [Act.put, List.setIfInBounds_toArray, List.set_cons_zero, List.set_cons_succ]
              refine wpAnyH_goes 16 (v := ?_) rfl rfl (by kernel_rfl) (by kernel_rfl) (by kernel_rfl) (fun _ _ _ h => h) (by rfl) (fun w9 hw9 => ?_) hS ?_
              rotate_left
              · (try dsimp only at hw9); go_simp; try with_reducible rfl
              try simp only [Act.put, List.setIfInBounds_toArray, List.set_cons_zero, List.set_cons_succ]
              refine wpAnyH_goes 17 (v := ?_) rfl rfl (by kernel_rfl) (by kernel_rfl) (by kernel_rfl) (fun _ _ _ h => h) (by rfl) (fun w9 hw9 => ?_) hS ?_
              rotate_left
              · (try dsimp only at hw9); go_simp; try with_reducible rfl
              try simp only [Act.put, List.setIfInBounds_toArray, List.set_cons_zero, List.set_cons_succ]
              refine wpAnyH_goes 18 (v := ?_) rfl rfl (by kernel_rfl) (by kernel_rfl) (by kernel_rfl) (fun _ _ _ h => h) (by rfl) (fun w9 hw9 => ?_) hS ?_
              rotate_left
              · (try dsimp only at hw9); go_simp; try with_reducible rfl
              try simp only [Act.put, List.setIfInBounds_toArray, List.set_cons_zero, List.set_cons_succ]
              refine wpAnyH_ready (rs := [19]) (by kernel_rfl) (by simp) (AllReadyH.cons rfl (fun K hK => ?_) AllReadyH.nil)
              go_simp; go_at_call 29; with_reducible refine (C3.out _).mono ?_; rintro ee w9 ⟨rfl, rfl⟩; go_wp2_with fail
              refine hK.out _ _ hS (fun hS => ?_)
              clear hK K
              try simp only [Act.put, List.setIfInBounds_toArray, List.set_cons_zero, List.set_cons_succ]
              refine wpAnyH_goes 20 (v := ?_) rfl rfl (by kernel_rfl) (by kernel_rfl) (by kernel_rfl) (fun _ _ _ h => h) (by rfl) (fun w9 hw9 => ?_) hS ?_
              rotate_left
              · (try dsimp only at hw9); go_simp; try with_reducible rfl
              try simp only [Act.put, List.setIfInBounds_toArray, List.set_cons_zero, List.set_cons_succ]
              refine wpAnyH_goes 21 (v := ?_) rfl rfl (by kernel_rfl) (by kernel_rfl) (by kernel_rfl) (fun _ _ _ h => h) (by rfl) (fun w9 hw9 => ?_) hS ?_
              rotate_left
              · (try dsimp only at hw9); go_simp; try with_reducible rfl
              try simp only [Act.put, List.setIfInBounds_toArray, List.set_cons_zero, List.set_cons_succ]
              refine wpAnyH_goes 22 (v := ?_) rfl rfl (by kernel_rfl) (by kernel_rfl) (by kernel_rfl) (fun _ _ _ h => h) (by rfl) (fun w9 hw9 => ?_) hS ?_
              rotate_left
              · (try dsimp only at hw9); go_simp; try with_reducible rfl
              try simp only [Act.put, List.setIfInBounds_toArray, List.set_cons_zero, List.set_cons_succ]
              refine wpAnyH_done (by kernel_rfl) ?_ _
              obtain ⟨q0, q1, q2, q3, q4, q5, q6⟩ := hS
              have GF := Lib.hid (GX.out.trans q4)
              clear q0 q1 q2 q3 q4 q5 q6
              go_wp2_with fail
              go_roundw
              case rel => exact ⟨k + 1, by omega, by go_num, HT', GF⟩
              case measure => simp [intOf]; omega
            | false =>
              obtain rfl : v = false := by
                cases v
                · rfl
                · exact absurd (HB3.out.2 ((HV.out.1 rfl).2.at_ (show p < k by omega) HY.out HX.out)) (by simp)
              clear HV
              go_wp2_with fail
              clear hXe
              refine wp_region_held_drew (S := (fun W => W.cell? ⟨wr.heap.size, 0, none⟩ = some (.int .i64 x.addr) ∧ W.cell? ⟨wr.heap.size, 1, none⟩ = some (.int .i64 x.cnt) ∧ W.cell? ⟨wr.heap.size, 2, none⟩ = some (.slice x.A x.n x.c) ∧ wr.heap.size < W.heap.size ∧ Gr X W ∧ W.cell? ⟨b, off + p * 3, none⟩ = some (.int .i64 y.addr) ∧ b < W.heap.size)) (by kernel_rfl) ⟨e0, e1, e2, e3, (Gr.refl X).dr, f1, f2⟩ (fun hS => ?_)
              refine wpAnyH_goes 0 (v := ?_) rfl rfl (by kernel_rfl) (by kernel_rfl) (by kernel_rfl) (fun _ _ _ h => h) (by rfl) (fun w9 hw9 => ?_) hS ?_
              rotate_left
              · (try dsimp only at hw9); go_simp; try with_reducible rfl
              try simp only [Act.put, List.setIfInBounds_toArray, List.set_cons_zero, List.set_cons_succ]
              refine wpAnyH_ready (rs := [1]) (by kernel_rfl) (by simp) (AllReadyH.cons rfl (fun K hK => ?_) AllReadyH.nil)
              go_simp; go_at_call 28; with_reducible refine (C1.out _ hS.2.2.2.2.1).mono ?_; rintro ee w9 ⟨rfl, hb⟩; go_wp2_with fail
              refine hK.out _ _ ⟨(hb.cell (p := ⟨wr.heap.size, 0, none⟩) hS.2.2.2.1).trans hS.1, (hb.cell (p := ⟨wr.heap.size, 1, none⟩) hS.2.2.2.1).trans hS.2.1, (hb.cell (p := ⟨wr.heap.size, 2, none⟩) hS.2.2.2.1).trans hS.2.2.1, Nat.lt_of_lt_of_le hS.2.2.2.1 hb.size, Gr.trans hS.2.2.2.2.1 hb, (hb.cell (p := ⟨b, off + p * 3, none⟩) hS.2.2.2.2.2.2).trans hS.2.2.2.2.2.1, Nat.lt_of_lt_of_le hS.2.2.2.2.2.2 hb.size⟩ (fun hS => ?_)
              clear hK K
              try simp only [Act.put, List.setIfInBounds_toArray, List.set_cons_zero, List.set_cons_succ]
              refine wpAnyH_goes 2 (v := ?_) rfl rfl (by kernel_rfl) (by kernel_rfl) (by kernel_rfl) (fun _ _ _ h => h) (by rfl) (fun w9 hw9 => ?_) hS ?_
              rotate_left
              · (try dsimp only at hw9); go_simp; try with_reducible rfl
              try simp only [Act.put, List.setIfInBounds_toArray, List.set_cons_zero, List.set_cons_succ]
              refine wpAnyH_goes 3 (v := ?_) rfl rfl (by kernel_rfl) (by kernel_rfl) (by kernel_rfl) (fun _ _ _ h => h) (by rfl) (fun w9 hw9 => ?_) hS ?_
              rotate_left
              · (try dsimp only at hw9); go_simp; try with_reducible rfl
              try simp only [Act.put, List.setIfInBounds_toArray, List.set_cons_zero, List.set_cons_succ]
              refine wpAnyH_goes 4 (v := ?_) rfl rfl (by kernel_rfl) (by kernel_rfl) (by kernel_rfl) (fun _ _ _ h => h) (by rfl) (fun w9 hw9 => ?_) hS ?_
              rotate_left
              · (try dsimp only at hw9); go_simp; try with_reducible rfl
              try simp only [Act.put, List.setIfInBounds_toArray, List.set_cons_zero, List.set_cons_succ]
              refine wpAnyH_ready (rs := [5]) (by kernel_rfl) (by simp) (AllReadyH.cons rfl (fun K hK => ?_) AllReadyH.nil)
              go_simp; go_at_call 22; with_reducible refine (C2.out _).mono ?_; rintro ee w9 ⟨rfl, hb⟩; go_wp2_with fail
              refine hK.out _ _ ⟨(hb.cell (p := ⟨wr.heap.size, 0, none⟩) hS.2.2.2.1).trans hS.1, (hb.cell (p := ⟨wr.heap.size, 1, none⟩) hS.2.2.2.1).trans hS.2.1, (hb.cell (p := ⟨wr.heap.size, 2, none⟩) hS.2.2.2.1).trans hS.2.2.1, Nat.lt_of_lt_of_le hS.2.2.2.1 hb.size, Gr.trans hS.2.2.2.2.1 hb, (hb.cell (p := ⟨b, off + p * 3, none⟩) hS.2.2.2.2.2.2).trans hS.2.2.2.2.2.1, Nat.lt_of_lt_of_le hS.2.2.2.2.2.2 hb.size⟩ (fun hS => ?_)
              clear hK K
              try simp only [Act.put, List.setIfInBounds_toArray, List.set_cons_zero, List.set_cons_succ]
              refine wpAnyH_goes 6 (v := ?_) rfl rfl (by kernel_rfl) (by kernel_rfl) (by kernel_rfl) (fun _ _ _ h => h) (by rfl) (fun w9 hw9 => ?_) hS ?_
              rotate_left
              · (try dsimp only at hw9); go_simp; try with_reducible rfl
              try simp only [Act.put, List.setIfInBounds_toArray, List.set_cons_zero, List.set_cons_succ]
              refine wpAnyH_goes 7 (v := ?_) rfl rfl (by kernel_rfl) (by kernel_rfl) (by kernel_rfl) (fun _ _ _ h => h) (by rfl) (fun w9 hw9 => ?_) hS ?_
              rotate_left
              · (try dsimp only at hw9); go_simp; try with_reducible rfl
              try simp only [Act.put, List.setIfInBounds_toArray, List.set_cons_zero, List.set_cons_succ]
              refine wpAnyH_goes 8 (v := ?_) rfl rfl (by kernel_rfl) (by kernel_rfl) (by kernel_rfl) (fun _ _ _ h => h) (by rfl) (fun w9 hw9 => ?_) hS ?_
              rotate_left
              · (try dsimp only at hw9); go_simp; try with_reducible rfl
              try simp only [Act.put, List.setIfInBounds_toArray, List.set_cons_zero, List.set_cons_succ]
              refine wpAnyH_goes 9 (v := .bool true) rfl rfl (by kernel_rfl) (by kernel_rfl) (by kernel_rfl) (fun _ _ _ h => h) (by rfl) (fun w9 hw9 => ?_) hS ?_
              · (try dsimp only at hw9); go_simp; first | done | omega | (simp [*]; done) | (simp; omega)
              try simp only [Act.put, List.setIfInBounds_toArray, List.set_cons_zero, List.set_cons_succ]
              refine wpAnyH_goes 10 (v := ?_) rfl rfl (by kernel_rfl) (by kernel_rfl) (by kernel_rfl) (fun _ _ _ h => h) (by rfl) (fun w9 hw9 => ?_) hS ?_
              rotate_left
              · (try dsimp only at hw9); go_simp; try with_reducible rfl
              try simp only [Act.put, List.setIfInBounds_toArray, List.set_cons_zero, List.set_cons_succ]
              refine wpAnyH_goes 11 (v := ?_) rfl rfl (by kernel_rfl) (by kernel_rfl) (by kernel_rfl) (fun _ _ _ h => h) (by rfl) (fun w9 hw9 => ?_) hS ?_
              rotate_left
              · (try dsimp only at hw9); go_simp; try with_reducible rfl
              try simp only [Act.put, List.setIfInBounds_toArray, List.set_cons_zero, List.set_cons_succ]
              refine wpAnyH_goes 12 (v := ?_) rfl rfl (by kernel_rfl) (by kernel_rfl) (by kernel_rfl) (fun _ _ _ h => h) (by rfl) (fun w9 hw9 => ?_) hS ?_
              rotate_left
              · (try dsimp only at hw9); go_simp; try with_reducible rfl
              try simp only [Act.put, List.setIfInBounds_toArray, List.set_cons_zero, List.set_cons_succ]
              refine wpAnyH_goes 13 (v := ?_) rfl rfl (by kernel_rfl) (by kernel_rfl) (by kernel_rfl) (fun _ _ _ h => h) (by rfl) (fun w9 hw9 => ?_) hS ?_
              rotate_left
              · (try dsimp only at hw9); go_simp; try with_reducible rfl
              try simp only [Act.put, List.setIfInBounds_toArray, List.set_cons_zero, List.set_cons_succ]
              refine wpAnyH_goes 14 (v := ?_) rfl rfl (by kernel_rfl) (by kernel_rfl) (by kernel_rfl) (fun _ _ _ h => h) (by rfl) (fun w9 hw9 => ?_) hS ?_
              rotate_left
              · (try dsimp only at hw9); go_simp; try with_reducible rfl
              try simp only [Act.put, List.setIfInBounds_toArray, List.set_cons_zero, List.set_cons_succ]
              refine wpAnyH_goes 15 (v := ?_) rfl rfl (by kernel_rfl) (by kernel_rfl) (by kernel_rfl) (fun _ _ _ h => h) (by rfl) (fun w9 hw9 => ?_) hS ?_
              rotate_left
              · (try dsimp only at hw9); go_simp; try with_reducible rfl
              try simp only [Act.put, List.setIfInBounds_toArray, List.set_cons_zero, List.set_cons_succ]
              refine wpAnyH_goes 16 (v := ?_) rfl rfl (by kernel_rfl) (by kernel_rfl) (by kernel_rfl) (fun _ _ _ h => h) (by rfl) (fun w9 hw9 => ?_) hS ?_
              rotate_left
              · (try dsimp only at hw9); go_simp; try with_reducible rfl
              try simp only [Act.put, List.setIfInBounds_toArray, List.set_cons_zero, List.set_cons_succ]
              refine wpAnyH_goes 17 (v := ?_) rfl rfl (by kernel_rfl) (by kernel_rfl) (by kernel_rfl) (fun _ _ _ h => h) (by rfl) (fun w9 hw9 => ?_) hS ?_
              rotate_left
              · (try dsimp only at hw9); go_simp; try with_reducible rfl
              try simp only [Act.put, List.setIfInBounds_toArray, List.set_cons_zero, List.set_cons_succ]
              refine wpAnyH_goes 18 (v := ?_) rfl rfl (by kernel_rfl) (by kernel_rfl) (by kernel_rfl) (fun _ _ _ h => h) (by rfl) (fun w9 hw9 => ?_) hS ?_
              rotate_left
              · (try dsimp only at hw9); go_simp; try with_reducible rfl
              try simp only [Act.put, List.setIfInBounds_toArray, List.set_cons_zero, List.set_cons_succ]
              refine wpAnyH_ready (rs := [19]) (by kernel_rfl) (by simp) (AllReadyH.cons rfl (fun K hK => ?_) AllReadyH.nil)
              go_simp; go_at_call 29; with_reducible refine (C3.out _).mono ?_; rintro ee w9 ⟨rfl, rfl⟩; go_wp2_with fail
              refine hK.out _ _ hS (fun hS => ?_)
              clear hK K
              try simp only [Act.put, List.setIfInBounds_toArray, List.set_cons_zero, List.set_cons_succ]
              refine wpAnyH_goes 20 (v := ?_) rfl rfl (by kernel_rfl) (by kernel_rfl) (by kernel_rfl) (fun _ _ _ h => h) (by rfl) (fun w9 hw9 => ?_) hS ?_
              rotate_left
              · (try dsimp only at hw9); go_simp; try with_reducible rfl
              try simp only [Act.put, List.setIfInBounds_toArray, List.set_cons_zero, List.set_cons_succ]
              refine wpAnyH_goes 21 (v := ?_) rfl rfl (by kernel_rfl) (by kernel_rfl) (by kernel_rfl) (fun _ _ _ h => h) (by rfl) (fun w9 hw9 => ?_) hS ?_
              rotate_left
              · (try dsimp only at hw9); go_simp; try with_reducible rfl
              try simp only [Act.put, List.setIfInBounds_toArray, List.set_cons_zero, List.set_cons_succ]
              refine wpAnyH_goes 22 (v := ?_) rfl rfl (by kernel_rfl) (by kernel_rfl) (by kernel_rfl) (fun _ _ _ h => h) (by rfl) (fun w9 hw9 => ?_) hS ?_
              rotate_left
              · (try dsimp only at hw9); go_simp; try with_reducible rfl
              try simp only [Act.put, List.setIfInBounds_toArray, List.set_cons_zero, List.set_cons_succ]
              refine wpAnyH_done (by kernel_rfl) ?_ _
              obtain ⟨q0, q1, q2, q3, q4, q5, q6⟩ := hS
              have GF := Lib.hid (GX.out.trans q4)
              clear q0 q1 q2 q3 q4 q5 q6
              go_wp2_with fail
              go_ret
              exact ⟨rfl, GF.out⟩
    · obtain rfl : k = n := by omega
      have hT : TOk l := by have := HT.out; rwa [← hlen, List.take_length] at this
      have hvn : v = decide ((k : Int) ≤ 64) := by
        rw [Bool.eq_iff_iff, HV.out, decide_eq_true_eq]
        exact ⟨fun h => by have := h.1; omega, fun h => ⟨by omega, hT⟩⟩
      subst hvn
      clear HV hT
      have G1 := HG
      go_wp2_with fail
      go_ret
      exact ⟨rfl, G1.out⟩
end
end Go.Proofs.Ytmkkeknimpjfoaa
