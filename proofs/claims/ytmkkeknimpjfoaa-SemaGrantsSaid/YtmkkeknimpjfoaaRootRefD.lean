/-
  deadboltref09: Set.
-/
import Derived.Test.YtmkkeknimpjfoaaRootRefC
namespace Go.Proofs.Ytmkkeknimpjfoaa
open Go.ChangeShapes Go.WideShapes Go.ChangeAt Go.RowKit
set_option linter.unusedVariables false
set_option linter.unusedSimpArgs false

/-- What has been put behind each other, when these spots have come. -/
def parts (P : List SV) (s : SV) : List SV := front P s.addr ++ (if SNil s ∨ back P s.addr = [] then [] else [s]) ++ back P s.addr
section
variable {L : List SV} {s x : SV} {k : Nat}
theorem front_snoc (P : List SV) (x : SV) (a : Int) : front (P ++ [x]) a = front P a ++ (if Lt x.addr a then [x] else []) := by
  unfold front
  rw [List.filter_append]
  by_cases h : Lt x.addr a
  · rw [if_pos h]; simp [h]
  · rw [if_neg h]; simp [h]
theorem back_snoc (P : List SV) (x : SV) (a : Int) : back (P ++ [x]) a = back P a ++ (if Lt a x.addr then [x] else []) := by
  unfold back
  rw [List.filter_append]
  by_cases h : Lt a x.addr
  · rw [if_pos h]; simp [h]
  · rw [if_neg h]; simp [h]
theorem back_none (h : TOk L) (hx : L[k]? = some x) (hl : Lt x.addr s.addr) : back (L.take k) s.addr = [] := by
  unfold back
  rw [List.filter_eq_nil_iff]
  intro y hy
  obtain ⟨j, hj⟩ := List.mem_iff_getElem?.1 hy
  rw [List.getElem?_take] at hj
  split at hj
  · have := h.at_ (by assumption) hj hx
    simp only [decide_eq_true_eq]
    exact fun hc => (this.trans hl).asymm hc
  · cases hj
theorem parts_eq (hx : L[k]? = some x) (he : x.addr = s.addr) : parts (L.take (k + 1)) s = parts (L.take k) s ∧ back (L.take (k + 1)) s.addr = back (L.take k) s.addr := by
  have h1 : ¬ Lt x.addr s.addr := fun h => by rw [he] at h; exact h.irrefl
  have h2 : ¬ Lt s.addr x.addr := fun h => by rw [he] at h; exact h.irrefl
  unfold parts
  rw [take_snoc hx, front_snoc, back_snoc, if_neg h1, if_neg h2, List.append_nil, List.append_nil]
  exact ⟨rfl, rfl⟩
theorem parts_lt (h : TOk L) (hx : L[k]? = some x) (hl : Lt x.addr s.addr) : parts (L.take (k + 1)) s = parts (L.take k) s ++ [x] ∧ back (L.take (k + 1)) s.addr = [] ∧ back (L.take k) s.addr = [] := by
  have h0 := back_none h hx hl
  unfold parts
  rw [take_snoc hx, front_snoc, back_snoc, if_pos hl, if_neg (fun hc => hl.asymm hc), h0]
  simp
theorem parts_first (hx : L[k]? = some x) (hl : Lt s.addr x.addr) (hs : ¬ SNil s) (hb : back (L.take k) s.addr = []) : parts (L.take (k + 1)) s = (parts (L.take k) s ++ [s]) ++ [x] ∧ back (L.take (k + 1)) s.addr ≠ [] := by
  unfold parts
  rw [take_snoc hx, front_snoc, back_snoc, if_pos hl, if_neg (fun hc => hl.asymm hc), hb]
  simp [hs]
theorem parts_more (hx : L[k]? = some x) (hl : Lt s.addr x.addr) (hd : SNil s ∨ back (L.take k) s.addr ≠ []) : parts (L.take (k + 1)) s = parts (L.take k) s ++ [x] ∧ back (L.take (k + 1)) s.addr ≠ [] := by
  unfold parts
  rw [take_snoc hx, front_snoc, back_snoc, if_pos hl, if_neg (fun hc => hl.asymm hc)]
  refine ⟨?_, by simp⟩
  rcases hd with hd | hd
  · simp [hd]
  · by_cases hs : SNil s
    · simp [hs]
    · simp [hs, hd]
theorem parts_done (hd : SNil s ∨ back L s.addr ≠ []) : parts L s = setl L s := by
  unfold parts setl
  rcases hd with hd | hd
  · simp [hd]
  · by_cases hs : SNil s
    · simp [hs]
    · simp [hs, hd]
theorem parts_last (hs : ¬ SNil s) (hb : back L s.addr = []) : parts L s ++ [s] = setl L s := by
  unfold parts setl
  simp [hs, hb]
theorem parts_len (P : List SV) (s : SV) : (parts P s).length ≤ 2 * P.length + 1 := by
  unfold parts front back
  rw [List.length_append, List.length_append]
  have h1 := List.length_filter_le (fun x : SV => decide (Lt x.addr s.addr)) P
  have h2 := List.length_filter_le (fun x : SV => decide (Lt s.addr x.addr)) P
  have h3 : (if SNil s ∨ List.filter (fun x : SV => decide (Lt s.addr x.addr)) P = [] then ([] : List SV) else [s]).length ≤ 1 := by split <;> simp
  omega
end
section
variable {w W w' : World} {base : Nat} {v : Value} {R : List SV} {y : SV} {g cap : Nat}
theorem srow_block (h : SRow W base v R.length R) {k : Nat} (hk : v.ownBlock = some k) : base ≤ k := by
  rcases h.2 with ⟨rfl, _⟩ | ⟨g', c', cur, rfl, hb, _⟩
  · cases hk
  · simp only [Value.ownBlock] at hk
    cases hk
    exact hb
theorem srow_lt (h : SRow W base v R.length R) {k : Nat} (hk : v.ownBlock = some k) : k < W.heap.size := by
  rcases h.2 with ⟨rfl, _⟩ | ⟨g', c', cur, rfl, hb, hc, _⟩
  · cases hk
  · simp only [Value.ownBlock] at hk
    cases hk
    exact (Array.getElem?_eq_some_iff.1 hc).1
theorem Appended.gr (h : Appended W base v R y g cap w') (hr : SRow W base v R.length R) (hg : Gr w W) (hb : w.heap.size ≤ base) : Gr w w' :=
  hg.gb h.2.1 fun k hk => Nat.le_trans hb (srow_block hr hk)
theorem Appended.blk (h : Appended W base v R y g cap w') (hr : SRow W base v R.length R) {b : Nat} {cs : Array Value} {t : TypeId} (hb : Blk W b cs t) (hlt : b < base) : Blk w' b cs t :=
  hb.gb h.2.1 fun e => by have := srow_block hr e; omega
theorem Appended.row (h : Appended W base v R y g cap w') : SRow w' base (.slice (some ⟨g, 0, none⟩) (R.length + 1) cap) (R ++ [y]).length (R ++ [y]) := by
  rw [List.length_append]
  exact h.1
theorem srow_gr {W' : World} (h : SRow W base v R.length R) (hg : Gr W W') : SRow W' base v R.length R :=
  h.kept (row := none) ⟨hg.os, hg.tape, hg.output, hg.size, fun k hk _ => hg.block k hk⟩ (by
    cases h0 : v.ownBlock with
    | none => exact .inl rfl
    | some g => exact .inr (by simp))
end
section
variable {w : World} {A : Option Addr} {n c : Nat} {L : List SV} {s : SV}
set_option maxHeartbeats 8000000 in
theorem rSet_is (hm : SMem w A n L) (hn : n ≤ 100000) (ht : TOk L) (hs : SOk s) (hsok : s.ok w) :
    Calls Try.prog 31 #[.slice A n c, .agg #[.int .i64 s.addr, .int .i64 s.cnt, .slice s.A s.n s.c]] w fun e w' => ∃ B m, e = .returned (.slice B (setl L s).length m) ∧ SMem w' B (setl L s).length (setl L s) ∧ (setl L s).length ≤ m ∧ Gr w w' := by
  have hlen := hm.1
  have HM := Lib.hid hm
  have HT := Lib.hid ht
  have HSK := Lib.hid hs
  have HSO := Lib.hid hsok
  have g0 := ((Gr.refl w).al (.cells #[.int .i64 s.addr, .int .i64 s.cnt, .slice s.A s.n s.c] 46)).al (.cells #[] 46)
  have B0 := (Blk.new w #[.int .i64 s.addr, .int .i64 s.cnt, .slice s.A s.n s.c] 46).al (.cells #[] 46)
  have BE := Blk.new (w.alloc (.cells #[.int .i64 s.addr, .int .i64 s.cnt, .slice s.A s.n s.c] 46)) #[] 46
  simp only [World.size_alloc] at BE
  have R0 : SRow ((w.alloc (.cells #[.int .i64 s.addr, .int .i64 s.cnt, .slice s.A s.n s.c] 46)).alloc (.cells #[] 46)) (w.heap.size + 1) (.slice (some ⟨w.heap.size + 1, 0, none⟩) 0 0) ([] : List SV).length [] :=
    ⟨rfl, .inr ⟨w.heap.size + 1, 0, #[], rfl, Nat.le_refl _, BE, Nat.le_refl _, Nat.zero_le _, rfl, rfl⟩⟩
  obtain ⟨d0, hd0⟩ := yes_no (SNil s)
  have CE := Lib.hid (rempty_is (w := w) hsok hd0 ((w.alloc (.cells #[.int .i64 s.addr, .int .i64 s.cnt, .slice s.A s.n s.c] 46)).alloc (.cells #[] 46)))
  have HD0 := Lib.hid hd0
  have HR0 := Lib.hid R0
  have s0 := (B0.at_ (k := 0) rfl).1
  have s1 := (B0.at_ (k := 1) rfl).1
  have s2 := (B0.at_ (k := 2) rfl).1
  clear hm ht hs hsok hd0 R0 BE
  go_enter Try.func31, Try.ntmps31
  go_wp2_with fail
  with_reducible refine CE.out.mono ?_
  rintro e w1 ⟨rfl, hb1⟩
  have HG1 := Lib.hid (g0.trans hb1)
  have HB1 := Lib.hid (B0.gr hb1)
  have HR1 := Lib.hid (srow_gr HR0.out hb1)
  clear CE g0 B0 HR0 hb1 s0 s1 s2
  go_wp2_with fail
  go_loopw [5, 6, 14] (fun O D i wr => ∃ (k : Nat) (dn : Bool), k ≤ n ∧ i = .int .i64 (k : Int) ∧ D = .bool dn ∧ Hid (SRow wr (w.heap.size + 1) O (parts (L.take k) s).length (parts (L.take k) s)) ∧ Hid (dn = true ↔ SNil s ∨ back (L.take k) s.addr ≠ []) ∧ Hid (Gr w wr) ∧ Hid (Blk wr w.heap.size #[.int .i64 s.addr, .int .i64 s.cnt, .slice s.A s.n s.c] 46)) (fun _ _ i _ => n - (intOf i).toNat)
  case atStart =>
    refine ⟨0, d0, Nat.zero_le _, rfl, rfl, Lib.hid ?_, Lib.hid ?_, HG1, HB1⟩
    · have : parts (L.take 0) s = [] := by simp [parts, front, back]
      rw [this]; exact HR1.out
    · rw [HD0.out]; simp [back]
  case round =>
    clear HG1 HB1 HR1 HD0
    obtain ⟨k, dn, hk, rfl, rfl, HR, HD, HG, HB⟩ := hrel
    by_cases hlt : k < n
    · obtain ⟨b, off, x, rfl, hbl, hx, hok, d0, d1, d2⟩ := (HM.out.gr HG.out).at_ hlt
      have HX := Lib.hid hx
      have k0 : (0 : Int) ≤ (k : Int) := by omega
      have k1 : (k : Int) < (n : Int) := by omega
      have g1 := (Gr.refl wr).al (.cells #[.int .i64 x.addr, .int .i64 x.cnt, .slice x.A x.n x.c] 46)
      have BX := Blk.new wr #[.int .i64 x.addr, .int .i64 x.cnt, .slice x.A x.n x.c] 46
      have q0 := (HB.out.at_ (k := 0) rfl).1
      have q1 := (HB.out.at_ (k := 1) rfl).1
      have q2 := (HB.out.at_ (k := 2) rfl).1
      have hbs := HB.out.lt
      have hplen := parts_len (L.take k) s
      rw [List.length_take] at hplen
      have hxk := Lib.hid (Tab.key HT.out (List.mem_of_getElem? hx))
      clear hx hok BX
      by_cases he : x.addr = s.addr
      · obtain ⟨h1, h2⟩ := parts_eq HX.out he
        have HR' := Lib.hid (srow_gr HR.out g1)
        rw [← h1] at HR'
        have HD' := HD
        rw [← h2] at HD'
        have HG' := Lib.hid (HG.out.trans g1)
        have HB' := Lib.hid (HB.out.gr g1)
        have hee : (x.addr == s.addr) = true := beq_iff_eq.2 he
        clear h1 h2 g1 HR HD HG HB he
        go_wp2_with fail
        go_roundw
        case rel => exact ⟨k + 1, dn, by omega, by go_num, rfl, HR', HD', HG', HB'⟩
        case measure => simp [intOf]; omega
      · have hne : (x.addr == s.addr) = false := beq_eq_false_iff_ne.2 he
        have C2 := Lib.hid (show Blk ((wr.alloc (.cells #[.int .i64 x.addr, .int .i64 x.cnt, .slice x.A x.n x.c] 46)).alloc (.cells #[.int .i64 x.addr, .int .i64 x.cnt, .slice x.A x.n x.c] 46)) (wr.heap.size + 1) #[.int .i64 x.addr, .int .i64 x.cnt, .slice x.A x.n x.c] 46 from by
          simpa using Blk.new (wr.alloc (.cells #[.int .i64 x.addr, .int .i64 x.cnt, .slice x.A x.n x.c] 46)) #[.int .i64 x.addr, .int .i64 x.cnt, .slice x.A x.n x.c] 46)
        have g2 := Lib.hid (g1.al (.cells #[.int .i64 x.addr, .int .i64 x.cnt, .slice x.A x.n x.c] 46))
        have HR2 := Lib.hid (srow_gr HR.out g2.out)
        have hbb : w.heap.size + 1 ≤ ((wr.alloc (.cells #[.int .i64 x.addr, .int .i64 x.cnt, .slice x.A x.n x.c] 46)).alloc (.cells #[.int .i64 x.addr, .int .i64 x.cnt, .slice x.A x.n x.c] 46)).heap.size := by simp; omega
        have HG1 := Lib.hid g1
        clear g1
        cases dn with
        | true =>
          have hp : Hid (parts (L.take (k + 1)) s = parts (L.take k) s ++ [x] ∧ (SNil s ∨ back (L.take (k + 1)) s.addr ≠ [])) := Lib.hid (by
            rcases Lt.tri x.addr s.addr with h | h | h
            · obtain ⟨h1, h2, h3⟩ := parts_lt HT.out HX.out h
              refine ⟨h1, .inl ?_⟩
              rcases HD.out.1 rfl with h4 | h4
              · exact h4
              · exact absurd h3 h4
            · exact absurd h he
            · obtain ⟨h1, h2⟩ := parts_more HX.out h (HD.out.1 rfl)
              exact ⟨h1, .inr h2⟩)
          clear HD he
          go_wp2_with (at_builtin; refine Mark.stop ?_)
          refine Mark.go ?_
          refine wpList_append_spot (y := x) rfl (.tmp 36) (.tmp 38) rfl rfl rfl HR2.out C2.out (by omega) hbb ?_
          intro g cap w3 hA
          have HG3 := Lib.hid (hA.gr HR2.out (HG.out.trans g2.out) (by omega))
          have HB3 := Lib.hid (hA.blk HR2.out (HB.out.gr g2.out) (by omega))
          have HR3 := Lib.hid hA.row
          rw [← hp.out.1] at HR3
          clear hA HR2 C2 q0 q1 q2 d0 d1 d2
          go_wp2_with fail
          go_roundw
          case rel => exact ⟨k + 1, true, by omega, by go_num, rfl, HR3, Lib.hid ⟨fun _ => hp.out.2, fun _ => rfl⟩, HG3, HB3⟩
          case measure => simp [intOf]; omega
        | false =>
          have hsn : ¬ SNil s := fun h => absurd (HD.out.2 (.inl h)) (by simp)
          have hbk : back (L.take k) s.addr = [] := Classical.byContradiction fun h => absurd (HD.out.2 (.inr h)) (by simp)
          obtain ⟨b1, hb1⟩ := yes_no (Lt s.addr x.addr)
          have CL := Lib.hid (fun W => rless_is HSK.out.1 hxk.out hb1 W)
          have HB1 := Lib.hid hb1
          have HSN := Lib.hid hsn
          have HBK := Lib.hid hbk
          have HE := Lib.hid he
          clear HD he hsn hbk hb1
          cases b1 with
          | false =>
            have hp : Hid (parts (L.take (k + 1)) s = parts (L.take k) s ++ [x] ∧ back (L.take (k + 1)) s.addr = []) := Lib.hid (by
              rcases Lt.tri x.addr s.addr with h | h | h
              · obtain ⟨h1, h2, h3⟩ := parts_lt HT.out HX.out h
                exact ⟨h1, h2⟩
              · exact absurd h HE.out
              · exact absurd (HB1.out.2 h) (by simp))
            go_wp2_with fail
            with_reducible refine (CL.out _).mono ?_
            rintro ee w2 ⟨rfl, hw2⟩
            subst hw2
            go_wp2_with (at_builtin; refine Mark.stop ?_)
            refine Mark.go ?_
            refine wpList_append_spot (y := x) rfl (.tmp 36) (.tmp 38) rfl rfl rfl HR2.out C2.out (by omega) hbb ?_
            intro g cap w3 hA
            have HG3 := Lib.hid (hA.gr HR2.out (HG.out.trans g2.out) (by omega))
            have HB3 := Lib.hid (hA.blk HR2.out (HB.out.gr g2.out) (by omega))
            have HR3 := Lib.hid hA.row
            rw [← hp.out.1] at HR3
            clear hA HR2 C2 q0 q1 q2 d0 d1 d2
            go_wp2_with fail
            go_roundw
            case rel => exact ⟨k + 1, false, by omega, by go_num, rfl, HR3, Lib.hid ⟨fun h => absurd h (by simp), fun h => by rcases h with h | h; exact absurd h HSN.out; exact absurd hp.out.2 h⟩, HG3, HB3⟩
            case measure => simp [intOf]; omega
          | true =>
            have hp : Hid (parts (L.take (k + 1)) s = (parts (L.take k) s ++ [s]) ++ [x] ∧ back (L.take (k + 1)) s.addr ≠ []) := Lib.hid (parts_first HX.out (HB1.out.1 rfl) HSN.out HBK.out)
            have S2 := Lib.hid (show Blk ((wr.alloc (.cells #[.int .i64 x.addr, .int .i64 x.cnt, .slice x.A x.n x.c] 46)).alloc (.cells #[.int .i64 s.addr, .int .i64 s.cnt, .slice s.A s.n s.c] 46)) (wr.heap.size + 1) #[.int .i64 s.addr, .int .i64 s.cnt, .slice s.A s.n s.c] 46 from by
              simpa using Blk.new (wr.alloc (.cells #[.int .i64 x.addr, .int .i64 x.cnt, .slice x.A x.n x.c] 46)) #[.int .i64 s.addr, .int .i64 s.cnt, .slice s.A s.n s.c] 46)
            have g3 := Lib.hid (HG1.out.al (.cells #[.int .i64 s.addr, .int .i64 s.cnt, .slice s.A s.n s.c] 46))
            have HR4 := Lib.hid (srow_gr HR.out g3.out)
            have hbb3 : w.heap.size + 1 ≤ ((wr.alloc (.cells #[.int .i64 x.addr, .int .i64 x.cnt, .slice x.A x.n x.c] 46)).alloc (.cells #[.int .i64 s.addr, .int .i64 s.cnt, .slice s.A s.n s.c] 46)).heap.size := by simp; omega
            clear C2 HR2 hbb
            go_wp2_with fail
            with_reducible refine (CL.out _).mono ?_
            rintro ee w2 ⟨rfl, hw2⟩
            subst hw2
            go_wp2_with (at_builtin; refine Mark.stop ?_)
            refine Mark.go ?_
            refine wpList_append_spot (y := s) rfl (.tmp 32) (.tmp 34) rfl rfl rfl HR4.out S2.out (by omega) hbb3 ?_
            intro g cap w3 hA
            have HG3 := Lib.hid (hA.gr HR4.out (HG.out.trans g3.out) (by omega))
            have HB3 := Lib.hid (hA.blk HR4.out (HB.out.gr g3.out) (by omega))
            have HX3 := ((Blk.new wr #[.int .i64 x.addr, .int .i64 x.cnt, .slice x.A x.n x.c] 46).al (.cells #[.int .i64 s.addr, .int .i64 s.cnt, .slice s.A s.n s.c] 46)).gb hA.2.1 (fun e => by have := srow_lt HR.out e; omega)
            have HR3 := Lib.hid hA.row
            obtain ⟨e0, _⟩ := HX3.at_ (k := 0) rfl
            obtain ⟨e1, _⟩ := HX3.at_ (k := 1) rfl
            obtain ⟨e2, _⟩ := HX3.at_ (k := 2) rfl
            have hxl := HX3.lt
            have hb3 := HG3.out.size
            have hb4 := (HB3.out.lt)
            have hl3 : (parts (L.take k) s ++ [s]).length ≤ 1000000 := by rw [List.length_append]; simp; omega
            have g4 := (Gr.refl w3).al (.cells #[.int .i64 x.addr, .int .i64 x.cnt, .slice x.A x.n x.c] 46)
            have HR5 := Lib.hid (srow_gr HR3.out g4)
            clear hA HX3 HR4 S2 q0 q1 q2 d0 d1 d2 HR
            go_wp2_with (at_builtin; refine Mark.stop ?_)
            refine Mark.go ?_
            refine wpList_append_spot (y := x) rfl (.tmp 36) (.tmp 38) rfl rfl rfl HR5.out (Blk.new w3 _ _) hl3 (by simp; omega) ?_
            intro g' cap' w5 hA
            have HG5 := Lib.hid (hA.gr HR5.out (HG3.out.trans g4) (by omega))
            have HB5 := Lib.hid (hA.blk HR5.out (HB3.out.gr g4) (by omega))
            have HR6 := Lib.hid hA.row
            rw [show (parts (L.take k) s ++ [s]).length = (parts (L.take k) s).length + 1 from by rw [List.length_append]; rfl, ← hp.out.1] at HR6
            clear hA HR5 HR3 e0 e1 e2
            go_wp2_with fail
            go_roundw
            case rel => exact ⟨k + 1, true, by omega, by go_num, rfl, HR6, Lib.hid ⟨fun _ => .inr hp.out.2, fun _ => rfl⟩, HG5, HB5⟩
            case measure => simp [intOf]; omega
    · obtain rfl : k = n := by omega
      have hR := HR.out
      have hD := HD.out
      rw [← hlen, List.take_length] at hR hD
      have hokall : ∀ y ∈ setl L s, y.ok w := fun y hy => by
        rcases mem_setl.1 hy with ⟨h1, _⟩ | ⟨h1, _⟩
        · exact HM.out.2.1 y h1
        · rw [h1]; exact HSO.out
      have hplen := parts_len L s
      cases dn with
      | true =>
        have hp := parts_done (hD.1 rfl)
        rw [hp] at hR
        obtain ⟨B, m, rfl, hmem, hle, hmx⟩ := own_smem hR (fun y hy => (hokall y hy).gr HG.out)
        have HME := Lib.hid hmem
        have HLE := Lib.hid hle
        clear hmem hle hmx hR hD HR HD hp
        go_wp2_with fail
        go_ret
        exact ⟨B, m, rfl, HME.out, HLE.out, HG.out⟩
      | false =>
        have hsn : ¬ SNil s := fun h => absurd (hD.2 (.inl h)) (by simp)
        have hbk : back L s.addr = [] := Classical.byContradiction fun h => absurd (hD.2 (.inr h)) (by simp)
        have hp := Lib.hid (parts_last hsn hbk)
        have q0 := (HB.out.at_ (k := 0) rfl).1
        have q1 := (HB.out.at_ (k := 1) rfl).1
        have q2 := (HB.out.at_ (k := 2) rfl).1
        have hbs := HB.out.lt
        have g1 := (Gr.refl wr).al (.cells #[.int .i64 s.addr, .int .i64 s.cnt, .slice s.A s.n s.c] 46)
        have HR2 := Lib.hid (srow_gr hR g1)
        have hb3 := HG.out.size
        clear hR hD HR HD hsn hbk
        go_wp2_with (at_builtin; refine Mark.stop ?_)
        refine Mark.go ?_
        refine wpList_append_spot (y := s) rfl (.tmp 43) (.tmp 45) rfl rfl rfl HR2.out (Blk.new wr _ _) (by omega) (by simp; omega) ?_
        intro g' cap' w5 hA
        have HG5 := Lib.hid (hA.gr HR2.out (HG.out.trans g1) (by omega))
        have hR6 := hA.row
        rw [hp.out] at hR6
        obtain ⟨B, m, he, hmem, hle, hmx⟩ := own_smem hR6 (fun y hy => (hokall y hy).gr HG5.out)
        have hl : (parts L s).length + 1 = (setl L s).length := by rw [← hp.out, List.length_append]; rfl
        have HE := Lib.hid he
        have HME := Lib.hid hmem
        have HLE := Lib.hid hle
        have HL := Lib.hid hl
        clear hmem hle hmx hR6 hA he hl q0 q1 q2
        go_wp2_with fail
        go_ret
        exact ⟨B, m, congrArg Ending.returned HE.out, HME.out, HLE.out, HG5.out⟩
end
end Go.Proofs.Ytmkkeknimpjfoaa
