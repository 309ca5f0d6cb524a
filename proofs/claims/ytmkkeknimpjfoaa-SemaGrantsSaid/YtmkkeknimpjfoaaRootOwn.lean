/-
  Package root: own; Right.
-/
import Derived.Test.YtmkkeknimpjfoaaRootFn
import Derived.IntWalk
import Derived.Test.YtmkkeknimpjfoaaRegion
namespace Go.Proofs.Ytmkkeknimpjfoaa
open Go.ChangeShapes Go.WideShapes Go.ChangeAt Go.RowKit
set_option linter.unusedVariables false
set_option linter.unusedSimpArgs false

section
variable {w : World} {A : Option Addr} {n c : Nat} {l : List Int} {a q : Int}
set_option maxHeartbeats 4000000 in
theorem own_is' (hm : IMem w A n l) (hn : n ≤ 1000000) :
    Calls Try.prog 48 #[.agg #[.int .i64 a, .int .i64 q, .slice A n c]] w fun e w' => ∃ B k, e = .returned (.agg #[.int .i64 a, .int .i64 q, .slice B n k]) ∧ IOwn w.heap.size w' B n k l ∧ Gr w w' := by
  obtain ⟨i0, hi0, hz0, hz1, hz2⟩ := info_parts infoInt
  have HZ := Lib.hid hz0
  have HZ1 := Lib.hid hz1
  have HZ2 := Lib.hid hz2
  have HI0 := Lib.hid hi0
  have g0 := ((Gr.refl w).al (.cells #[.int .i64 a, .int .i64 q, .slice A n c] 46)).al (.cells #[.int .i64 0, .int .i64 0, .slice none 0 0] 46)
  have B0 := (Blk.new w #[.int .i64 a, .int .i64 q, .slice A n c] 46).al (.cells #[.int .i64 0, .int .i64 0, .slice none 0 0] 46)
  have B1 := Blk.new (w.alloc (.cells #[.int .i64 a, .int .i64 q, .slice A n c] 46)) #[.int .i64 0, .int .i64 0, .slice none 0 0] 46
  simp only [World.size_alloc] at B1
  have HM := Lib.hid (hm.gr g0)
  clear hz0 hz1 hz2 hi0 hm
  go_enter Try.func48, Try.ntmps48
  go_wp2_with (at_builtin; refine Mark.stop ?_)
  refine Mark.go ?_
  refine wpList_append_omem _ (Value.int .i64) B64 rfl (.const (.slice none 0 0)) (.tmp 4) 38 rfl (fun _ => rfl) (w.heap.size + 1 + 1) 3 i0 (.int .i64 0) 8 Try.underlying38 HI0.out HZ.out HZ1.out HZ2.out rfl none 0 0 [] rfl OMem.nil_ A n c l rfl HM.out (by unfold maxLen; omega) (by omega) (by simp) ?_
  intro C k w1 own1 gb1
  rw [Nat.zero_add]
  rw [Nat.zero_add, List.nil_append] at own1
  have BB := B0.gb gb1 (by simp)
  have BR := B1.gb gb1 (by simp)
  have G1 := g0.gb gb1 (by simp)
  obtain ⟨x0, _⟩ := BB.at_ (k := 0) rfl
  obtain ⟨x1, _⟩ := BB.at_ (k := 1) rfl
  obtain ⟨p2, z2⟩ := BB.at_ (k := 2) rfl
  obtain ⟨y0, u0⟩ := BR.at_ (k := 0) rfl
  obtain ⟨y1, u1⟩ := BR.at_ (k := 1) rfl
  obtain ⟨y2, u2⟩ := BR.at_ (k := 2) rfl
  have hlt := Lib.hid BR.lt
  have HBR := Lib.hid ((((BR.st (p := ⟨w.heap.size, 2, none⟩) (by simp) (.slice C n k)).set 0 (.int .i64 a)).set 1 (.int .i64 q)).set 2 (.slice C n k))
  have HGW := Lib.hid ((((G1.st (p := ⟨w.heap.size, 2, none⟩) (Nat.le_refl _) (.slice C n k)).st (p := ⟨w.heap.size + 1, 0, none⟩) (by show w.heap.size ≤ w.heap.size + 1; omega) (.int .i64 a)).st (p := ⟨w.heap.size + 1, 1, none⟩) (by show w.heap.size ≤ w.heap.size + 1; omega) (.int .i64 q)).st (p := ⟨w.heap.size + 1, 2, none⟩) (by show w.heap.size ≤ w.heap.size + 1; omega) (.slice C n k))
  have HO := Lib.hid (((((own1.st (p := ⟨w.heap.size, 2, none⟩) (by show w.heap.size < w.heap.size + 1 + 1; omega) (.slice C n k)).st (p := ⟨w.heap.size + 1, 0, none⟩) (by show w.heap.size + 1 < w.heap.size + 1 + 1; omega) (.int .i64 a)).st (p := ⟨w.heap.size + 1, 1, none⟩) (by show w.heap.size + 1 < w.heap.size + 1 + 1; omega) (.int .i64 q)).st (p := ⟨w.heap.size + 1, 2, none⟩) (by show w.heap.size + 1 < w.heap.size + 1 + 1; omega) (.slice C n k)).low (show w.heap.size ≤ w.heap.size + 1 + 1 from by omega))
  clear own1 gb1 BB BR G1 B0 B1 g0
  go_wp2_with fail
  have BF := HBR.out
  have GW := HGW.out
  have OW := HO.out
  clear x0 x1 p2 z2 y0 u0 y1 u1 y2 u2 HBR HGW HO
  generalize (((w1.setCell _ _).setCell _ _).setCell _ _).setCell _ _ = WF at BF GW OW ⊢
  have q0 : WF.cell? ⟨w.heap.size + 1, 0, none⟩ = some (.int .i64 a) := (BF.at_ (k := 0) rfl).1
  have q1 : WF.cell? ⟨w.heap.size + 1, 1, none⟩ = some (.int .i64 q) := (BF.at_ (k := 1) rfl).1
  have q2 : WF.cell? ⟨w.heap.size + 1, 2, none⟩ = some (.slice C n k) := (BF.at_ (k := 2) rfl).1
  exact bodyPost_ret (v := .agg #[.int .i64 a, .int .i64 q, .slice C n k]) (by simp [results, Try.results48, go_sem, q0, q1, q2]) rfl ⟨C, k, rfl, OW, GW⟩
theorem own_is {x : SV} (h : x.ok w) (hn : x.line.length ≤ 64) :
    Calls Try.prog 48 #[.agg #[.int .i64 x.addr, .int .i64 x.cnt, .slice x.A x.n x.c]] w fun e w' => ∃ B k, e = .returned (.agg #[.int .i64 x.addr, .int .i64 x.cnt, .slice B x.n k]) ∧ SV.ok w' ⟨x.addr, x.cnt, B, x.n, k, x.line⟩ ∧ Gr w w' := by
  have hl := h.len
  refine (own_is' (a := x.addr) (q := x.cnt) (c := x.c) h.2.2.1 (by omega)).mono ?_
  rintro e w' ⟨B, k, rfl, ho, hg⟩
  exact ⟨B, k, rfl, ⟨h.1, h.2.1, ho.mem, ho.le, by have := ho.max; unfold maxLen at this; omega⟩, hg⟩
end

section
variable {w : World} {A : Option Addr} {n c : Nat} {l : List SV}
set_option maxHeartbeats 8000000 in
theorem RRight_is (hm : SMem w A n l) {v : Bool} (hv : v = true ↔ Tab l) :
    Calls Try.prog 26 #[.slice A n c] w fun e w' => e = .returned (.bool v) ∧ Gr w w' := by
  have hlen := hm.1
  have HM := Lib.hid hm
  have HV := Lib.hid hv
  clear hm hv
  by_cases hn : n ≤ 64
  · have h1 : ¬ (64 : Int) < (n : Int) := by omega
    go_enter Try.func26, Try.ntmps26
    go_wp2_with fail
    go_loopw [10] (fun i wr => ∃ k : Nat, k ≤ n ∧ i = .int .i64 (k : Int) ∧ Hid (TOk (l.take k)) ∧ Hid (Gr w wr)) (fun i _ => n - (intOf i).toNat)
    case atStart => exact ⟨0, Nat.zero_le _, rfl, Lib.hid (by simpa using TOk.nil), Lib.hid (Gr.refl _)⟩
    case round =>
      obtain ⟨k, hk, rfl, HT, HG⟩ := hrel
      by_cases hlt : k < n
      · obtain ⟨b, off, x, rfl, hbl, hx, hok, d0, d1, d2⟩ := (HM.out.gr HG.out).at_ hlt
        have HX := Lib.hid hx
        have HS := Lib.hid (TOk.step hx HT.out)
        have k0 : (0 : Int) ≤ (k : Int) := by omega
        have k1 : (k : Int) < (n : Int) := by omega
        have hlx := Lib.hid hx
        obtain ⟨X, hXe⟩ : ∃ X, wr.alloc (.cells #[.int .i64 x.addr, .int .i64 x.cnt, .slice x.A x.n x.c] 46) = X := ⟨_, rfl⟩
        have gX : Gr wr X := hXe ▸ (Gr.refl wr).al _
        have ok1 := Lib.hid (hok.gr gX)
        have GX := Lib.hid (HG.out.trans gX)
        have BX : Blk X wr.heap.size #[.int .i64 x.addr, .int .i64 x.cnt, .slice x.A x.n x.c] 46 := hXe ▸ Blk.new wr _ _
        have e0 : X.drew.cell? ⟨wr.heap.size, 0, none⟩ = some (.int .i64 x.addr) := (BX.at_ (k := 0) rfl).1
        have e1 : X.drew.cell? ⟨wr.heap.size, 1, none⟩ = some (.int .i64 x.cnt) := (BX.at_ (k := 1) rfl).1
        have e2 : X.drew.cell? ⟨wr.heap.size, 2, none⟩ = some (.slice x.A x.n x.c) := (BX.at_ (k := 2) rfl).1
        have e3 : wr.heap.size < X.drew.heap.size := BX.lt
        obtain ⟨b1, hb1⟩ := yes_no (SOk x)
        obtain ⟨b2, hb2⟩ := yes_no (SNil x)
        have C1 : Hid (∀ W, Gr X W → Calls Try.prog 39 #[.agg #[.int .i64 x.addr, .int .i64 x.cnt, .slice x.A x.n x.c]] W fun e w' => e = .returned (.bool b1) ∧ Gr W w') := Lib.hid fun W g => rsound_is (ok1.out.gr g) hb1
        have C2 : Hid (∀ W, Calls Try.prog 40 #[.agg #[.int .i64 x.addr, .int .i64 x.cnt, .slice x.A x.n x.c]] W fun e w' => e = .returned (.bool b2) ∧ Gr W w') := Lib.hid fun W => empty_is ok1.out hb2 W
        have HB1 := Lib.hid hb1
        have HB2 := Lib.hid hb2
        clear hx hok hb1 hb2
        cases b1 with
        | false =>
          obtain rfl : v = false := by
            cases v
            · rfl
            · have h1 := (HV.out.1 rfl).2.1 x (List.mem_of_getElem? HX.out)
              exact absurd (HB1.out.2 h1.1) (by simp)
          clear C2 HV
          go_wp2_with fail
          clear hXe
          refine wp_region_held_drew (S := (fun W => W.cell? ⟨wr.heap.size, 0, none⟩ = some (.int .i64 x.addr) ∧ W.cell? ⟨wr.heap.size, 1, none⟩ = some (.int .i64 x.cnt) ∧ W.cell? ⟨wr.heap.size, 2, none⟩ = some (.slice x.A x.n x.c) ∧ wr.heap.size < W.heap.size ∧ Gr X W)) (by kernel_rfl) ⟨e0, e1, e2, e3, (Gr.refl X).dr⟩ (fun hS => ?_)
          refine wpAnyH_goes 0 (v := ?_) rfl rfl (by kernel_rfl) (by kernel_rfl) (by kernel_rfl) (fun _ _ _ h => h) (by rfl) (fun w9 hw9 => ?_) hS ?_
          rotate_left
          · (try dsimp only at hw9); go_simp; try with_reducible rfl
          try simp only [Act.put, List.setIfInBounds_toArray, List.set_cons_zero, List.set_cons_succ]
          refine wpAnyH_ready (rs := [1]) (by kernel_rfl) (by simp) (AllReadyH.cons rfl (fun K hK => ?_) AllReadyH.nil)
          go_simp; go_at_call 39; with_reducible refine (C1.out _ hS.2.2.2.2).mono ?_; rintro ee w9 ⟨rfl, hb⟩; go_wp2_with fail
          refine hK.out _ _ ⟨(hb.cell (p := ⟨wr.heap.size, 0, none⟩) hS.2.2.2.1).trans hS.1, (hb.cell (p := ⟨wr.heap.size, 1, none⟩) hS.2.2.2.1).trans hS.2.1, (hb.cell (p := ⟨wr.heap.size, 2, none⟩) hS.2.2.2.1).trans hS.2.2.1, Nat.lt_of_lt_of_le hS.2.2.2.1 hb.size, Gr.trans hS.2.2.2.2 hb⟩ (fun hS => ?_)
          clear hK K
          try simp only [Act.put, List.setIfInBounds_toArray, List.set_cons_zero, List.set_cons_succ]
          refine wpAnyH_goes 2 (v := ?_) rfl rfl (by kernel_rfl) (by kernel_rfl) (by kernel_rfl) (fun _ _ _ h => h) (by rfl) (fun w9 hw9 => ?_) hS ?_
          rotate_left
          · (try dsimp only at hw9); go_simp; try with_reducible rfl
          try simp only [Act.put, List.setIfInBounds_toArray, List.set_cons_zero, List.set_cons_succ]
          refine wpAnyH_goes 3 (v := ?_) rfl rfl (by kernel_rfl) (by kernel_rfl) (by kernel_rfl) (fun _ _ _ h => h) (by rfl) (fun w9 hw9 => ?_) hS ?_
          rotate_left
          · (try dsimp only at hw9); go_simp; try with_reducible rfl
          try simp only [Act.put, List.setIfInBounds_toArray, List.set_cons_zero, List.set_cons_succ]
          refine wpAnyH_pass 4 rfl rfl (by kernel_rfl) (by kernel_rfl) (by kernel_rfl) (fun _ _ _ h => h) (by rfl) hS ?_
          try simp only [Act.put, List.setIfInBounds_toArray, List.set_cons_zero, List.set_cons_succ]
          refine wpAnyH_pass 5 rfl rfl (by kernel_rfl) (by kernel_rfl) (by kernel_rfl) (fun _ _ _ h => h) (by rfl) hS ?_
          try simp only [Act.put, List.setIfInBounds_toArray, List.set_cons_zero, List.set_cons_succ]
          refine wpAnyH_goes 6 (v := ?_) rfl rfl (by kernel_rfl) (by kernel_rfl) (by kernel_rfl) (fun _ _ _ h => h) (by rfl) (fun w9 hw9 => ?_) hS ?_
          rotate_left
          · (try dsimp only at hw9); go_simp; try with_reducible rfl
          try simp only [Act.put, List.setIfInBounds_toArray, List.set_cons_zero, List.set_cons_succ]
          refine wpAnyH_goes 7 (v := ?_) rfl rfl (by kernel_rfl) (by kernel_rfl) (by kernel_rfl) (fun _ _ _ h => h) (by rfl) (fun w9 hw9 => ?_) hS ?_
          rotate_left
          · (try dsimp only at hw9); go_simp; try with_reducible rfl
          try simp only [Act.put, List.setIfInBounds_toArray, List.set_cons_zero, List.set_cons_succ]
          refine wpAnyH_pass 8 rfl rfl (by kernel_rfl) (by kernel_rfl) (by kernel_rfl) (fun _ _ _ h => h) (by rfl) hS ?_
          try simp only [Act.put, List.setIfInBounds_toArray, List.set_cons_zero, List.set_cons_succ]
          refine wpAnyH_pass 9 rfl rfl (by kernel_rfl) (by kernel_rfl) (by kernel_rfl) (fun _ _ _ h => h) (by rfl) hS ?_
          try simp only [Act.put, List.setIfInBounds_toArray, List.set_cons_zero, List.set_cons_succ]
          refine wpAnyH_pass 10 rfl rfl (by kernel_rfl) (by kernel_rfl) (by kernel_rfl) (fun _ _ _ h => h) (by rfl) hS ?_
          try simp only [Act.put, List.setIfInBounds_toArray, List.set_cons_zero, List.set_cons_succ]
          refine wpAnyH_pass 11 rfl rfl (by kernel_rfl) (by kernel_rfl) (by kernel_rfl) (fun _ _ _ h => h) (by rfl) hS ?_
          try simp only [Act.put, List.setIfInBounds_toArray, List.set_cons_zero, List.set_cons_succ]
          refine wpAnyH_pass 12 rfl rfl (by kernel_rfl) (by kernel_rfl) (by kernel_rfl) (fun _ _ _ h => h) (by rfl) hS ?_
          try simp only [Act.put, List.setIfInBounds_toArray, List.set_cons_zero, List.set_cons_succ]
          refine wpAnyH_pass 13 rfl rfl (by kernel_rfl) (by kernel_rfl) (by kernel_rfl) (fun _ _ _ h => h) (by rfl) hS ?_
          try simp only [Act.put, List.setIfInBounds_toArray, List.set_cons_zero, List.set_cons_succ]
          refine wpAnyH_pass 14 rfl rfl (by kernel_rfl) (by kernel_rfl) (by kernel_rfl) (fun _ _ _ h => h) (by rfl) hS ?_
          try simp only [Act.put, List.setIfInBounds_toArray, List.set_cons_zero, List.set_cons_succ]
          refine wpAnyH_pass 15 rfl rfl (by kernel_rfl) (by kernel_rfl) (by kernel_rfl) (fun _ _ _ h => h) (by rfl) hS ?_
          try simp only [Act.put, List.setIfInBounds_toArray, List.set_cons_zero, List.set_cons_succ]
          refine wpAnyH_pass 16 rfl rfl (by kernel_rfl) (by kernel_rfl) (by kernel_rfl) (fun _ _ _ h => h) (by rfl) hS ?_
          try simp only [Act.put, List.setIfInBounds_toArray, List.set_cons_zero, List.set_cons_succ]
          refine wpAnyH_pass 17 rfl rfl (by kernel_rfl) (by kernel_rfl) (by kernel_rfl) (fun _ _ _ h => h) (by rfl) hS ?_
          try simp only [Act.put, List.setIfInBounds_toArray, List.set_cons_zero, List.set_cons_succ]
          refine wpAnyH_pass 18 rfl rfl (by kernel_rfl) (by kernel_rfl) (by kernel_rfl) (fun _ _ _ h => h) (by rfl) hS ?_
          try simp only [Act.put, List.setIfInBounds_toArray, List.set_cons_zero, List.set_cons_succ]
          refine wpAnyH_pass 19 rfl rfl (by kernel_rfl) (by kernel_rfl) (by kernel_rfl) (fun _ _ _ h => h) (by rfl) hS ?_
          try simp only [Act.put, List.setIfInBounds_toArray, List.set_cons_zero, List.set_cons_succ]
          refine wpAnyH_pass 20 rfl rfl (by kernel_rfl) (by kernel_rfl) (by kernel_rfl) (fun _ _ _ h => h) (by rfl) hS ?_
          try simp only [Act.put, List.setIfInBounds_toArray, List.set_cons_zero, List.set_cons_succ]
          refine wpAnyH_pass 21 rfl rfl (by kernel_rfl) (by kernel_rfl) (by kernel_rfl) (fun _ _ _ h => h) (by rfl) hS ?_
          try simp only [Act.put, List.setIfInBounds_toArray, List.set_cons_zero, List.set_cons_succ]
          refine wpAnyH_goes 22 (v := ?_) rfl rfl (by kernel_rfl) (by kernel_rfl) (by kernel_rfl) (fun _ _ _ h => h) (by rfl) (fun w9 hw9 => ?_) hS ?_
          rotate_left
          · (try dsimp only at hw9); go_simp; try with_reducible rfl
          try simp only [Act.put, List.setIfInBounds_toArray, List.set_cons_zero, List.set_cons_succ]
          refine wpAnyH_done (by kernel_rfl) ?_ _
          obtain ⟨q0, q1, q2, q3, q4⟩ := hS
          have GF := Lib.hid (GX.out.trans q4)
          clear q0 q1 q2 q3 q4
          go_wp2_with fail
          go_ret
          exact ⟨rfl, GF.out⟩
        | true =>
          cases b2 with
          | true =>
            obtain rfl : v = false := by
              cases v
              · rfl
              · have h1 := (HV.out.1 rfl).2.1 x (List.mem_of_getElem? HX.out)
                exact absurd (HB2.out.1 rfl) h1.2
            clear HV
            go_wp2_with fail
            clear hXe
            refine wp_region_held_drew (S := (fun W => W.cell? ⟨wr.heap.size, 0, none⟩ = some (.int .i64 x.addr) ∧ W.cell? ⟨wr.heap.size, 1, none⟩ = some (.int .i64 x.cnt) ∧ W.cell? ⟨wr.heap.size, 2, none⟩ = some (.slice x.A x.n x.c) ∧ wr.heap.size < W.heap.size ∧ Gr X W)) (by kernel_rfl) ⟨e0, e1, e2, e3, (Gr.refl X).dr⟩ (fun hS => ?_)
            refine wpAnyH_goes 0 (v := ?_) rfl rfl (by kernel_rfl) (by kernel_rfl) (by kernel_rfl) (fun _ _ _ h => h) (by rfl) (fun w9 hw9 => ?_) hS ?_
            rotate_left
            · (try dsimp only at hw9); go_simp; try with_reducible rfl
            try simp only [Act.put, List.setIfInBounds_toArray, List.set_cons_zero, List.set_cons_succ]
            refine wpAnyH_ready (rs := [1]) (by kernel_rfl) (by simp) (AllReadyH.cons rfl (fun K hK => ?_) AllReadyH.nil)
            go_simp; go_at_call 39; with_reducible refine (C1.out _ hS.2.2.2.2).mono ?_; rintro ee w9 ⟨rfl, hb⟩; go_wp2_with fail
            refine hK.out _ _ ⟨(hb.cell (p := ⟨wr.heap.size, 0, none⟩) hS.2.2.2.1).trans hS.1, (hb.cell (p := ⟨wr.heap.size, 1, none⟩) hS.2.2.2.1).trans hS.2.1, (hb.cell (p := ⟨wr.heap.size, 2, none⟩) hS.2.2.2.1).trans hS.2.2.1, Nat.lt_of_lt_of_le hS.2.2.2.1 hb.size, Gr.trans hS.2.2.2.2 hb⟩ (fun hS => ?_)
            clear hK K
            try simp only [Act.put, List.setIfInBounds_toArray, List.set_cons_zero, List.set_cons_succ]
            refine wpAnyH_goes 2 (v := ?_) rfl rfl (by kernel_rfl) (by kernel_rfl) (by kernel_rfl) (fun _ _ _ h => h) (by rfl) (fun w9 hw9 => ?_) hS ?_
            rotate_left
            · (try dsimp only at hw9); go_simp; try with_reducible rfl
            try simp only [Act.put, List.setIfInBounds_toArray, List.set_cons_zero, List.set_cons_succ]
            refine wpAnyH_goes 3 (v := ?_) rfl rfl (by kernel_rfl) (by kernel_rfl) (by kernel_rfl) (fun _ _ _ h => h) (by rfl) (fun w9 hw9 => ?_) hS ?_
            rotate_left
            · (try dsimp only at hw9); go_simp; try with_reducible rfl
            try simp only [Act.put, List.setIfInBounds_toArray, List.set_cons_zero, List.set_cons_succ]
            refine wpAnyH_goes 4 (v := ?_) rfl rfl (by kernel_rfl) (by kernel_rfl) (by kernel_rfl) (fun _ _ _ h => h) (by rfl) (fun w9 hw9 => ?_) hS ?_
            rotate_left
            · (try dsimp only at hw9); go_simp; try with_reducible rfl
            try simp only [Act.put, List.setIfInBounds_toArray, List.set_cons_zero, List.set_cons_succ]
            refine wpAnyH_ready (rs := [5]) (by kernel_rfl) (by simp) (AllReadyH.cons rfl (fun K hK => ?_) AllReadyH.nil)
            go_simp; go_at_call 40; with_reducible refine (C2.out _).mono ?_; rintro ee w9 ⟨rfl, hb⟩; go_wp2_with fail
            refine hK.out _ _ ⟨(hb.cell (p := ⟨wr.heap.size, 0, none⟩) hS.2.2.2.1).trans hS.1, (hb.cell (p := ⟨wr.heap.size, 1, none⟩) hS.2.2.2.1).trans hS.2.1, (hb.cell (p := ⟨wr.heap.size, 2, none⟩) hS.2.2.2.1).trans hS.2.2.1, Nat.lt_of_lt_of_le hS.2.2.2.1 hb.size, Gr.trans hS.2.2.2.2 hb⟩ (fun hS => ?_)
            clear hK K
            try simp only [Act.put, List.setIfInBounds_toArray, List.set_cons_zero, List.set_cons_succ]
            refine wpAnyH_goes 6 (v := ?_) rfl rfl (by kernel_rfl) (by kernel_rfl) (by kernel_rfl) (fun _ _ _ h => h) (by rfl) (fun w9 hw9 => ?_) hS ?_
            rotate_left
            · (try dsimp only at hw9); go_simp; try with_reducible rfl
            try simp only [Act.put, List.setIfInBounds_toArray, List.set_cons_zero, List.set_cons_succ]
            refine wpAnyH_goes 7 (v := ?_) rfl rfl (by kernel_rfl) (by kernel_rfl) (by kernel_rfl) (fun _ _ _ h => h) (by rfl) (fun w9 hw9 => ?_) hS ?_
            rotate_left
            · (try dsimp only at hw9); go_simp; try with_reducible rfl
            try simp only [Act.put, List.setIfInBounds_toArray, List.set_cons_zero, List.set_cons_succ]
            refine wpAnyH_pass 8 rfl rfl (by kernel_rfl) (by kernel_rfl) (by kernel_rfl) (fun _ _ _ h => h) (by rfl) hS ?_
            try simp only [Act.put, List.setIfInBounds_toArray, List.set_cons_zero, List.set_cons_succ]
            refine wpAnyH_pass 9 rfl rfl (by kernel_rfl) (by kernel_rfl) (by kernel_rfl) (fun _ _ _ h => h) (by rfl) hS ?_
            try simp only [Act.put, List.setIfInBounds_toArray, List.set_cons_zero, List.set_cons_succ]
            refine wpAnyH_pass 10 rfl rfl (by kernel_rfl) (by kernel_rfl) (by kernel_rfl) (fun _ _ _ h => h) (by rfl) hS ?_
            try simp only [Act.put, List.setIfInBounds_toArray, List.set_cons_zero, List.set_cons_succ]
            refine wpAnyH_pass 11 rfl rfl (by kernel_rfl) (by kernel_rfl) (by kernel_rfl) (fun _ _ _ h => h) (by rfl) hS ?_
            try simp only [Act.put, List.setIfInBounds_toArray, List.set_cons_zero, List.set_cons_succ]
            refine wpAnyH_pass 12 rfl rfl (by kernel_rfl) (by kernel_rfl) (by kernel_rfl) (fun _ _ _ h => h) (by rfl) hS ?_
            try simp only [Act.put, List.setIfInBounds_toArray, List.set_cons_zero, List.set_cons_succ]
            refine wpAnyH_pass 13 rfl rfl (by kernel_rfl) (by kernel_rfl) (by kernel_rfl) (fun _ _ _ h => h) (by rfl) hS ?_
            try simp only [Act.put, List.setIfInBounds_toArray, List.set_cons_zero, List.set_cons_succ]
            refine wpAnyH_pass 14 rfl rfl (by kernel_rfl) (by kernel_rfl) (by kernel_rfl) (fun _ _ _ h => h) (by rfl) hS ?_
            try simp only [Act.put, List.setIfInBounds_toArray, List.set_cons_zero, List.set_cons_succ]
            refine wpAnyH_pass 15 rfl rfl (by kernel_rfl) (by kernel_rfl) (by kernel_rfl) (fun _ _ _ h => h) (by rfl) hS ?_
            try simp only [Act.put, List.setIfInBounds_toArray, List.set_cons_zero, List.set_cons_succ]
            refine wpAnyH_pass 16 rfl rfl (by kernel_rfl) (by kernel_rfl) (by kernel_rfl) (fun _ _ _ h => h) (by rfl) hS ?_
            try simp only [Act.put, List.setIfInBounds_toArray, List.set_cons_zero, List.set_cons_succ]
            refine wpAnyH_pass 17 rfl rfl (by kernel_rfl) (by kernel_rfl) (by kernel_rfl) (fun _ _ _ h => h) (by rfl) hS ?_
            try simp only [Act.put, List.setIfInBounds_toArray, List.set_cons_zero, List.set_cons_succ]
            refine wpAnyH_pass 18 rfl rfl (by kernel_rfl) (by kernel_rfl) (by kernel_rfl) (fun _ _ _ h => h) (by rfl) hS ?_
            try simp only [Act.put, List.setIfInBounds_toArray, List.set_cons_zero, List.set_cons_succ]
            refine wpAnyH_pass 19 rfl rfl (by kernel_rfl) (by kernel_rfl) (by kernel_rfl) (fun _ _ _ h => h) (by rfl) hS ?_
            try simp only [Act.put, List.setIfInBounds_toArray, List.set_cons_zero, List.set_cons_succ]
            refine wpAnyH_pass 20 rfl rfl (by kernel_rfl) (by kernel_rfl) (by kernel_rfl) (fun _ _ _ h => h) (by rfl) hS ?_
            try simp only [Act.put, List.setIfInBounds_toArray, List.set_cons_zero, List.set_cons_succ]
            refine wpAnyH_pass 21 rfl rfl (by kernel_rfl) (by kernel_rfl) (by kernel_rfl) (fun _ _ _ h => h) (by rfl) hS ?_
            try simp only [Act.put, List.setIfInBounds_toArray, List.set_cons_zero, List.set_cons_succ]
            refine wpAnyH_goes 22 (v := ?_) rfl rfl (by kernel_rfl) (by kernel_rfl) (by kernel_rfl) (fun _ _ _ h => h) (by rfl) (fun w9 hw9 => ?_) hS ?_
            rotate_left
            · (try dsimp only at hw9); go_simp; try with_reducible rfl
            try simp only [Act.put, List.setIfInBounds_toArray, List.set_cons_zero, List.set_cons_succ]
            refine wpAnyH_done (by kernel_rfl) ?_ _
            obtain ⟨q0, q1, q2, q3, q4⟩ := hS
            have GF := Lib.hid (GX.out.trans q4)
            clear q0 q1 q2 q3 q4
            go_wp2_with fail
            go_ret
            exact ⟨rfl, GF.out⟩
          | false =>
            cases k with
            | zero =>
              simp only [Nat.zero_mul, Nat.add_zero] at d0 d1 d2
              have HT' : Hid (TOk (l.take (0 + 1))) := Lib.hid (HS.out.2 ⟨HB1.out.1 rfl, fun h => absurd (HB2.out.2 h) (by simp), fun p y hp => absurd hp (by omega)⟩)
              go_wp2_with fail
              clear hXe
              refine wp_region_held_drew (S := (fun W => W.cell? ⟨wr.heap.size, 0, none⟩ = some (.int .i64 x.addr) ∧ W.cell? ⟨wr.heap.size, 1, none⟩ = some (.int .i64 x.cnt) ∧ W.cell? ⟨wr.heap.size, 2, none⟩ = some (.slice x.A x.n x.c) ∧ wr.heap.size < W.heap.size ∧ Gr X W)) (by kernel_rfl) ⟨e0, e1, e2, e3, (Gr.refl X).dr⟩ (fun hS => ?_)
              refine wpAnyH_goes 0 (v := ?_) rfl rfl (by kernel_rfl) (by kernel_rfl) (by kernel_rfl) (fun _ _ _ h => h) (by rfl) (fun w9 hw9 => ?_) hS ?_
              rotate_left
              · (try dsimp only at hw9); go_simp; try with_reducible rfl
              try simp only [Act.put, List.setIfInBounds_toArray, List.set_cons_zero, List.set_cons_succ]
              refine wpAnyH_ready (rs := [1]) (by kernel_rfl) (by simp) (AllReadyH.cons rfl (fun K hK => ?_) AllReadyH.nil)
              go_simp; go_at_call 39; with_reducible refine (C1.out _ hS.2.2.2.2).mono ?_; rintro ee w9 ⟨rfl, hb⟩; go_wp2_with fail
              refine hK.out _ _ ⟨(hb.cell (p := ⟨wr.heap.size, 0, none⟩) hS.2.2.2.1).trans hS.1, (hb.cell (p := ⟨wr.heap.size, 1, none⟩) hS.2.2.2.1).trans hS.2.1, (hb.cell (p := ⟨wr.heap.size, 2, none⟩) hS.2.2.2.1).trans hS.2.2.1, Nat.lt_of_lt_of_le hS.2.2.2.1 hb.size, Gr.trans hS.2.2.2.2 hb⟩ (fun hS => ?_)
              clear hK K
              try simp only [Act.put, List.setIfInBounds_toArray, List.set_cons_zero, List.set_cons_succ]
              refine wpAnyH_goes 2 (v := ?_) rfl rfl (by kernel_rfl) (by kernel_rfl) (by kernel_rfl) (fun _ _ _ h => h) (by rfl) (fun w9 hw9 => ?_) hS ?_
              rotate_left
              · (try dsimp only at hw9); go_simp; try with_reducible rfl
              try simp only [Act.put, List.setIfInBounds_toArray, List.set_cons_zero, List.set_cons_succ]
              refine wpAnyH_goes 3 (v := ?_) rfl rfl (by kernel_rfl) (by kernel_rfl) (by kernel_rfl) (fun _ _ _ h => h) (by rfl) (fun w9 hw9 => ?_) hS ?_
              rotate_left
              · (try dsimp only at hw9); go_simp; try with_reducible rfl
              try simp only [Act.put, List.setIfInBounds_toArray, List.set_cons_zero, List.set_cons_succ]
              refine wpAnyH_goes 4 (v := ?_) rfl rfl (by kernel_rfl) (by kernel_rfl) (by kernel_rfl) (fun _ _ _ h => h) (by rfl) (fun w9 hw9 => ?_) hS ?_
              rotate_left
              · (try dsimp only at hw9); go_simp; try with_reducible rfl
              try simp only [Act.put, List.setIfInBounds_toArray, List.set_cons_zero, List.set_cons_succ]
              refine wpAnyH_ready (rs := [5]) (by kernel_rfl) (by simp) (AllReadyH.cons rfl (fun K hK => ?_) AllReadyH.nil)
              go_simp; go_at_call 40; with_reducible refine (C2.out _).mono ?_; rintro ee w9 ⟨rfl, hb⟩; go_wp2_with fail
              refine hK.out _ _ ⟨(hb.cell (p := ⟨wr.heap.size, 0, none⟩) hS.2.2.2.1).trans hS.1, (hb.cell (p := ⟨wr.heap.size, 1, none⟩) hS.2.2.2.1).trans hS.2.1, (hb.cell (p := ⟨wr.heap.size, 2, none⟩) hS.2.2.2.1).trans hS.2.2.1, Nat.lt_of_lt_of_le hS.2.2.2.1 hb.size, Gr.trans hS.2.2.2.2 hb⟩ (fun hS => ?_)
              clear hK K
              try simp only [Act.put, List.setIfInBounds_toArray, List.set_cons_zero, List.set_cons_succ]
              refine wpAnyH_goes 6 (v := ?_) rfl rfl (by kernel_rfl) (by kernel_rfl) (by kernel_rfl) (fun _ _ _ h => h) (by rfl) (fun w9 hw9 => ?_) hS ?_
              rotate_left
              · (try dsimp only at hw9); go_simp; try with_reducible rfl
              try simp only [Act.put, List.setIfInBounds_toArray, List.set_cons_zero, List.set_cons_succ]
              refine wpAnyH_goes 7 (v := ?_) rfl rfl (by kernel_rfl) (by kernel_rfl) (by kernel_rfl) (fun _ _ _ h => h) (by rfl) (fun w9 hw9 => ?_) hS ?_
              rotate_left
              · (try dsimp only at hw9); go_simp; try with_reducible rfl
              try simp only [Act.put, List.setIfInBounds_toArray, List.set_cons_zero, List.set_cons_succ]
              refine wpAnyH_goes 8 (v := ?_) rfl rfl (by kernel_rfl) (by kernel_rfl) (by kernel_rfl) (fun _ _ _ h => h) (by rfl) (fun w9 hw9 => ?_) hS ?_
              rotate_left
              · (try dsimp only at hw9); go_simp; try with_reducible rfl
              try simp only [Act.put, List.setIfInBounds_toArray, List.set_cons_zero, List.set_cons_succ]
              refine wpAnyH_goes 9 (v := ?_) rfl rfl (by kernel_rfl) (by kernel_rfl) (by kernel_rfl) (fun _ _ _ h => h) (by rfl) (fun w9 hw9 => ?_) hS ?_
              rotate_left
              · (try dsimp only at hw9); go_simp; try with_reducible rfl
              try simp only [Act.put, List.setIfInBounds_toArray, List.set_cons_zero, List.set_cons_succ]
              refine wpAnyH_goes 10 (v := ?_) rfl rfl (by kernel_rfl) (by kernel_rfl) (by kernel_rfl) (fun _ _ _ h => h) (by rfl) (fun w9 hw9 => ?_) hS ?_
              rotate_left
              · (try dsimp only at hw9); go_simp; try with_reducible rfl
              try simp only [Act.put, List.setIfInBounds_toArray, List.set_cons_zero, List.set_cons_succ]
              refine wpAnyH_pass 11 rfl rfl (by kernel_rfl) (by kernel_rfl) (by kernel_rfl) (fun _ _ _ h => h) (by rfl) hS ?_
              try simp only [Act.put, List.setIfInBounds_toArray, List.set_cons_zero, List.set_cons_succ]
              refine wpAnyH_pass 12 rfl rfl (by kernel_rfl) (by kernel_rfl) (by kernel_rfl) (fun _ _ _ h => h) (by rfl) hS ?_
              try simp only [Act.put, List.setIfInBounds_toArray, List.set_cons_zero, List.set_cons_succ]
              refine wpAnyH_pass 13 rfl rfl (by kernel_rfl) (by kernel_rfl) (by kernel_rfl) (fun _ _ _ h => h) (by rfl) hS ?_
              try simp only [Act.put, List.setIfInBounds_toArray, List.set_cons_zero, List.set_cons_succ]
              refine wpAnyH_pass 14 rfl rfl (by kernel_rfl) (by kernel_rfl) (by kernel_rfl) (fun _ _ _ h => h) (by rfl) hS ?_
              try simp only [Act.put, List.setIfInBounds_toArray, List.set_cons_zero, List.set_cons_succ]
              refine wpAnyH_pass 15 rfl rfl (by kernel_rfl) (by kernel_rfl) (by kernel_rfl) (fun _ _ _ h => h) (by rfl) hS ?_
              try simp only [Act.put, List.setIfInBounds_toArray, List.set_cons_zero, List.set_cons_succ]
              refine wpAnyH_pass 16 rfl rfl (by kernel_rfl) (by kernel_rfl) (by kernel_rfl) (fun _ _ _ h => h) (by rfl) hS ?_
              try simp only [Act.put, List.setIfInBounds_toArray, List.set_cons_zero, List.set_cons_succ]
              refine wpAnyH_pass 17 rfl rfl (by kernel_rfl) (by kernel_rfl) (by kernel_rfl) (fun _ _ _ h => h) (by rfl) hS ?_
              try simp only [Act.put, List.setIfInBounds_toArray, List.set_cons_zero, List.set_cons_succ]
              refine wpAnyH_pass 18 rfl rfl (by kernel_rfl) (by kernel_rfl) (by kernel_rfl) (fun _ _ _ h => h) (by rfl) hS ?_
              try simp only [Act.put, List.setIfInBounds_toArray, List.set_cons_zero, List.set_cons_succ]
              refine wpAnyH_pass 19 rfl rfl (by kernel_rfl) (by kernel_rfl) (by kernel_rfl) (fun _ _ _ h => h) (by rfl) hS ?_
              try simp only [Act.put, List.setIfInBounds_toArray, List.set_cons_zero, List.set_cons_succ]
              refine wpAnyH_pass 20 rfl rfl (by kernel_rfl) (by kernel_rfl) (by kernel_rfl) (fun _ _ _ h => h) (by rfl) hS ?_
              try simp only [Act.put, List.setIfInBounds_toArray, List.set_cons_zero, List.set_cons_succ]
              refine wpAnyH_goes 21 (v := ?_) rfl rfl (by kernel_rfl) (by kernel_rfl) (by kernel_rfl) (fun _ _ _ h => h) (by rfl) (fun w9 hw9 => ?_) hS ?_
              rotate_left
              · (try dsimp only at hw9); go_simp; try with_reducible rfl
              try simp only [Act.put, List.setIfInBounds_toArray, List.set_cons_zero, List.set_cons_succ]
              refine wpAnyH_goes 22 (v := ?_) rfl rfl (by kernel_rfl) (by kernel_rfl) (by kernel_rfl) (fun _ _ _ h => h) (by rfl) (fun w9 hw9 => ?_) hS ?_
              rotate_left
              · (try dsimp only at hw9); go_simp; try with_reducible rfl
              try simp only [Act.put, List.setIfInBounds_toArray, List.set_cons_zero, List.set_cons_succ]
              refine wpAnyH_done (by kernel_rfl) ?_ _
              obtain ⟨q0, q1, q2, q3, q4⟩ := hS
              have GF := Lib.hid (GX.out.trans q4)
              clear q0 q1 q2 q3 q4
              go_wp2_with fail
              go_roundw
              case rel => exact ⟨0 + 1, by omega, by go_num, HT', GF⟩
              case measure => simp [intOf]; omega
            | succ p =>
              obtain ⟨k, hkp⟩ : ∃ k, p + 1 = k := ⟨_, rfl⟩
              rw [hkp] at hk HT hlt d0 d1 d2 HX HS k0 k1 hlx ⊢
              obtain ⟨b', off', y, hb', _, hy, _, f0, _, _⟩ := (HM.out.gr HG.out).at_ (show p < n by omega)
              cases hb'
              have hw : IntKind.i64.wrap ((k : Int) - 1) = (p : Int) := by rw [wrap_id (by omega) (by omega)]; omega
              have p0 : (0 : Int) ≤ (p : Int) := by omega
              have p1 : (p : Int) < (n : Int) := by omega
              have p2 : (0 : Int) < (k : Int) := by omega
              have f1 : X.drew.cell? ⟨b, off + p * 3, none⟩ = some (.int .i64 y.addr) := (gX.cell (p := ⟨b, off + p * 3, none⟩) hbl).trans f0
              have f2 : b < X.drew.heap.size := Nat.lt_of_lt_of_le hbl gX.size
              have hyk : y ∈ l.take k := List.mem_iff_getElem?.2 ⟨p, by rw [List.getElem?_take, if_pos (by omega)]; exact hy⟩
              obtain ⟨b3, hb3⟩ := yes_no (Lt y.addr x.addr)
              have C3 : Hid (∀ W, Calls Try.prog 41 #[.int .i64 y.addr, .int .i64 x.addr] W fun e w' => e = .returned (.bool b3) ∧ w' = W) := Lib.hid fun W => ahead_is (Tab.key HT.out hyk) (HB1.out.1 rfl).1 hb3 W
              have HB3 := Lib.hid hb3
              have HY := Lib.hid hy
              clear hy hyk hb3 f0
              cases b3 with
              | true =>
                have HT' : Hid (TOk (l.take (k + 1))) := Lib.hid (HS.out.2 ⟨HB1.out.1 rfl, fun h => absurd (HB2.out.2 h) (by simp), fun p' y' hp hy' => by
                  obtain rfl : p' = p := by omega
                  rw [HY.out] at hy'
                  cases hy'
                  exact HB3.out.1 rfl⟩)
                go_wp2_with fail
                clear hXe
                refine wp_region_held_drew (S := (fun W => W.cell? ⟨wr.heap.size, 0, none⟩ = some (.int .i64 x.addr) ∧ W.cell? ⟨wr.heap.size, 1, none⟩ = some (.int .i64 x.cnt) ∧ W.cell? ⟨wr.heap.size, 2, none⟩ = some (.slice x.A x.n x.c) ∧ wr.heap.size < W.heap.size ∧ Gr X W ∧ W.cell? ⟨b, off + p * 3, none⟩ = some (.int .i64 y.addr) ∧ b < W.heap.size)) (by kernel_rfl) ⟨e0, e1, e2, e3, (Gr.refl X).dr, f1, f2⟩ (fun hS => ?_)
                refine wpAnyH_goes 0 (v := ?_) rfl rfl (by kernel_rfl) (by kernel_rfl) (by kernel_rfl) (fun _ _ _ h => h) (by rfl) (fun w9 hw9 => ?_) hS ?_
                rotate_left
                · (try dsimp only at hw9); go_simp; try with_reducible rfl
                try simp only [Act.put, List.setIfInBounds_toArray, List.set_cons_zero, List.set_cons_succ]
                refine wpAnyH_ready (rs := [1]) (by kernel_rfl) (by simp) (AllReadyH.cons rfl (fun K hK => ?_) AllReadyH.nil)
                go_simp; go_at_call 39; with_reducible refine (C1.out _ hS.2.2.2.2.1).mono ?_; rintro ee w9 ⟨rfl, hb⟩; go_wp2_with fail
                refine hK.out _ _ ⟨(hb.cell (p := ⟨wr.heap.size, 0, none⟩) hS.2.2.2.1).trans hS.1, (hb.cell (p := ⟨wr.heap.size, 1, none⟩) hS.2.2.2.1).trans hS.2.1, (hb.cell (p := ⟨wr.heap.size, 2, none⟩) hS.2.2.2.1).trans hS.2.2.1, Nat.lt_of_lt_of_le hS.2.2.2.1 hb.size, Gr.trans hS.2.2.2.2.1 hb, (hb.cell (p := ⟨b, off + p * 3, none⟩) hS.2.2.2.2.2.2).trans hS.2.2.2.2.2.1, Nat.lt_of_lt_of_le hS.2.2.2.2.2.2 hb.size⟩ (fun hS => ?_)
                clear hK K
                try simp only [Act.put, List.setIfInBounds_toArray, List.set_cons_zero, List.set_cons_succ]
                refine wpAnyH_goes 2 (v := ?_) rfl rfl (by kernel_rfl) (by kernel_rfl) (by kernel_rfl) (fun _ _ _ h => h) (by rfl) (fun w9 hw9 => ?_) hS ?_
                rotate_left
                · (try dsimp only at hw9); go_simp; try with_reducible rfl
                try simp only [Act.put, List.setIfInBounds_toArray, List.set_cons_zero, List.set_cons_succ]
                refine wpAnyH_goes 3 (v := ?_) rfl rfl (by kernel_rfl) (by kernel_rfl) (by kernel_rfl) (fun _ _ _ h => h) (by rfl) (fun w9 hw9 => ?_) hS ?_
                rotate_left
                · (try dsimp only at hw9); go_simp; try with_reducible rfl
                try simp only [Act.put, List.setIfInBounds_toArray, List.set_cons_zero, List.set_cons_succ]
                refine wpAnyH_goes 4 (v := ?_) rfl rfl (by kernel_rfl) (by kernel_rfl) (by kernel_rfl) (fun _ _ _ h => h) (by rfl) (fun w9 hw9 => ?_) hS ?_
                rotate_left
                · (try dsimp only at hw9); go_simp; try with_reducible rfl
                try simp only [Act.put, List.setIfInBounds_toArray, List.set_cons_zero, List.set_cons_succ]
                refine wpAnyH_ready (rs := [5]) (by kernel_rfl) (by simp) (AllReadyH.cons rfl (fun K hK => ?_) AllReadyH.nil)
                go_simp; go_at_call 40; with_reducible refine (C2.out _).mono ?_; rintro ee w9 ⟨rfl, hb⟩; go_wp2_with fail
                refine hK.out _ _ ⟨(hb.cell (p := ⟨wr.heap.size, 0, none⟩) hS.2.2.2.1).trans hS.1, (hb.cell (p := ⟨wr.heap.size, 1, none⟩) hS.2.2.2.1).trans hS.2.1, (hb.cell (p := ⟨wr.heap.size, 2, none⟩) hS.2.2.2.1).trans hS.2.2.1, Nat.lt_of_lt_of_le hS.2.2.2.1 hb.size, Gr.trans hS.2.2.2.2.1 hb, (hb.cell (p := ⟨b, off + p * 3, none⟩) hS.2.2.2.2.2.2).trans hS.2.2.2.2.2.1, Nat.lt_of_lt_of_le hS.2.2.2.2.2.2 hb.size⟩ (fun hS => ?_)
                clear hK K
                try simp only [Act.put, List.setIfInBounds_toArray, List.set_cons_zero, List.set_cons_succ]
                refine wpAnyH_goes 6 (v := ?_) rfl rfl (by kernel_rfl) (by kernel_rfl) (by kernel_rfl) (fun _ _ _ h => h) (by rfl) (fun w9 hw9 => ?_) hS ?_
                rotate_left
                · (try dsimp only at hw9); go_simp; try with_reducible rfl
                try simp only [Act.put, List.setIfInBounds_toArray, List.set_cons_zero, List.set_cons_succ]
                refine wpAnyH_goes 7 (v := ?_) rfl rfl (by kernel_rfl) (by kernel_rfl) (by kernel_rfl) (fun _ _ _ h => h) (by rfl) (fun w9 hw9 => ?_) hS ?_
                rotate_left
                · (try dsimp only at hw9); go_simp; try with_reducible rfl
                try simp only [Act.put, List.setIfInBounds_toArray, List.set_cons_zero, List.set_cons_succ]
                refine wpAnyH_goes 8 (v := ?_) rfl rfl (by kernel_rfl) (by kernel_rfl) (by kernel_rfl) (fun _ _ _ h => h) (by rfl) (fun w9 hw9 => ?_) hS ?_
                rotate_left
                · (try dsimp only at hw9); go_simp; try with_reducible rfl
                try simp only [Act.put, List.setIfInBounds_toArray, List.set_cons_zero, List.set_cons_succ]
                refine wpAnyH_goes 9 (v := .bool true) rfl rfl (by kernel_rfl) (by kernel_rfl) (by kernel_rfl) (fun _ _ _ h => h) (by rfl) (fun w9 hw9 => ?_) hS ?_
                · (try dsimp only at hw9); go_simp; first | done | omega | (simp [*]; done) | (simp; omega)
                try simp only [Act.put, List.setIfInBounds_toArray, List.set_cons_zero, List.set_cons_succ]
                refine wpAnyH_goes 10 (v := ?_) rfl rfl (by kernel_rfl) (by kernel_rfl) (by kernel_rfl) (fun _ _ _ h => h) (by rfl) (fun w9 hw9 => ?_) hS ?_
                rotate_left
                · (try dsimp only at hw9); go_simp; try with_reducible rfl
                try simp only [Act.put, List.setIfInBounds_toArray, List.set_cons_zero, List.set_cons_succ]
                refine wpAnyH_goes 11 (v := ?_) rfl rfl (by kernel_rfl) (by kernel_rfl) (by kernel_rfl) (fun _ _ _ h => h) (by rfl) (fun w9 hw9 => ?_) hS ?_
                rotate_left
                · (try dsimp only at hw9); go_simp; try with_reducible rfl
                try simp only [Act.put, List.setIfInBounds_toArray, List.set_cons_zero, List.set_cons_succ]
                refine wpAnyH_goes 12 (v := ?_) rfl rfl (by kernel_rfl) (by kernel_rfl) (by kernel_rfl) (fun _ _ _ h => h) (by rfl) (fun w9 hw9 => ?_) hS ?_
                rotate_left
                · (try dsimp only at hw9); go_simp; try with_reducible rfl
                try simp only [Act.put, List.setIfInBounds_toArray, List.set_cons_zero, List.set_cons_succ]
                refine wpAnyH_goes 13 (v := ?_) rfl rfl (by kernel_rfl) (by kernel_rfl) (by kernel_rfl) (fun _ _ _ h => h) (by rfl) (fun w9 hw9 => ?_) hS ?_
                rotate_left
                · (try dsimp only at hw9); go_simp; try with_reducible rfl
                try simp only [Act.put, List.setIfInBounds_toArray, List.set_cons_zero, List.set_cons_succ]
                refine wpAnyH_goes 14 (v := ?_) rfl rfl (by kernel_rfl) (by kernel_rfl) (by kernel_rfl) (fun _ _ _ h => h) (by rfl) (fun w9 hw9 => ?_) hS ?_
                rotate_left
                · (try dsimp only at hw9); go_simp; try with_reducible rfl
                try simp only [Act.put, List.setIfInBounds_toArray, List.set_cons_zero, List.set_cons_succ]
                refine wpAnyH_goes 15 (v := ?_) rfl rfl (by kernel_rfl) (by kernel_rfl) (by kernel_rfl) (fun _ _ _ h => h) (by rfl) (fun w9 hw9 => ?_) hS ?_
                rotate_left
                · (try dsimp only at hw9); go_simp; try with_reducible rfl
                try simp only [Act.put, List.setIfInBounds_toArray, List.set_cons_zero, List.set_cons_succ]
                refine wpAnyH_goes 16 (v := ?_) rfl rfl (by kernel_rfl) (by kernel_rfl) (by kernel_rfl) (fun _ _ _ h => h) (by rfl) (fun w9 hw9 => ?_) hS ?_
                rotate_left
                · (try dsimp only at hw9); go_simp; try with_reducible rfl
                try simp only [Act.put, List.setIfInBounds_toArray, List.set_cons_zero, List.set_cons_succ]
                refine wpAnyH_goes 17 (v := ?_) rfl rfl (by kernel_rfl) (by kernel_rfl) (by kernel_rfl) (fun _ _ _ h => h) (by rfl) (fun w9 hw9 => ?_) hS ?_
                rotate_left
                · (try dsimp only at hw9); go_simp; try with_reducible rfl
                try simp only [Act.put, List.setIfInBounds_toArray, List.set_cons_zero, List.set_cons_succ]
                refine wpAnyH_goes 18 (v := ?_) rfl rfl (by kernel_rfl) (by kernel_rfl) (by kernel_rfl) (fun _ _ _ h => h) (by rfl) (fun w9 hw9 => ?_) hS ?_
                rotate_left
                · (try dsimp only at hw9); go_simp; try with_reducible rfl
                try simp only [Act.put, List.setIfInBounds_toArray, List.set_cons_zero, List.set_cons_succ]
                refine wpAnyH_ready (rs := [19]) (by kernel_rfl) (by simp) (AllReadyH.cons rfl (fun K hK => ?_) AllReadyH.nil)
                go_simp; go_at_call 41; with_reducible refine (C3.out _).mono ?_; rintro ee w9 ⟨rfl, rfl⟩; go_wp2_with fail
                refine hK.out _ _ hS (fun hS => ?_)
                clear hK K
                try simp only [Act.put, List.setIfInBounds_toArray, List.set_cons_zero, List.set_cons_succ]
                refine wpAnyH_goes 20 (v := ?_) rfl rfl (by kernel_rfl) (by kernel_rfl) (by kernel_rfl) (fun _ _ _ h => h) (by rfl) (fun w9 hw9 => ?_) hS ?_
                rotate_left
                · (try dsimp only at hw9); go_simp; try with_reducible rfl
                try simp only [Act.put, List.setIfInBounds_toArray, List.set_cons_zero, List.set_cons_succ]
                refine wpAnyH_goes 21 (v := ?_) rfl rfl (by kernel_rfl) (by kernel_rfl) (by kernel_rfl) (fun _ _ _ h => h) (by rfl) (fun w9 hw9 => ?_) hS ?_
                rotate_left
                · (try dsimp only at hw9); go_simp; try with_reducible rfl
                try simp only [Act.put, List.setIfInBounds_toArray, List.set_cons_zero, List.set_cons_succ]
                refine wpAnyH_goes 22 (v := ?_) rfl rfl (by kernel_rfl) (by kernel_rfl) (by kernel_rfl) (fun _ _ _ h => h) (by rfl) (fun w9 hw9 => ?_) hS ?_
                rotate_left
                · (try dsimp only at hw9); go_simp; try with_reducible rfl
                try simp only [Act.put, List.setIfInBounds_toArray, List.set_cons_zero, List.set_cons_succ]
                refine wpAnyH_done (by kernel_rfl) ?_ _
                obtain ⟨q0, q1, q2, q3, q4, q5, q6⟩ := hS
                have GF := Lib.hid (GX.out.trans q4)
                clear q0 q1 q2 q3 q4 q5 q6
                go_wp2_with fail
                go_roundw
                case rel => exact ⟨k + 1, by omega, by go_num, HT', GF⟩
                case measure => simp [intOf]; omega
              | false =>
                obtain rfl : v = false := by
                  cases v
                  · rfl
                  · exact absurd (HB3.out.2 ((HV.out.1 rfl).2.at_ (show p < k by omega) HY.out HX.out)) (by simp)
                clear HV
                go_wp2_with fail
                clear hXe
                refine wp_region_held_drew (S := (fun W => W.cell? ⟨wr.heap.size, 0, none⟩ = some (.int .i64 x.addr) ∧ W.cell? ⟨wr.heap.size, 1, none⟩ = some (.int .i64 x.cnt) ∧ W.cell? ⟨wr.heap.size, 2, none⟩ = some (.slice x.A x.n x.c) ∧ wr.heap.size < W.heap.size ∧ Gr X W ∧ W.cell? ⟨b, off + p * 3, none⟩ = some (.int .i64 y.addr) ∧ b < W.heap.size)) (by kernel_rfl) ⟨e0, e1, e2, e3, (Gr.refl X).dr, f1, f2⟩ (fun hS => ?_)
                refine wpAnyH_goes 0 (v := ?_) rfl rfl (by kernel_rfl) (by kernel_rfl) (by kernel_rfl) (fun _ _ _ h => h) (by rfl) (fun w9 hw9 => ?_) hS ?_
                rotate_left
                · (try dsimp only at hw9); go_simp; try with_reducible rfl
                try simp only [Act.put, List.setIfInBounds_toArray, List.set_cons_zero, List.set_cons_succ]
                refine wpAnyH_ready (rs := [1]) (by kernel_rfl) (by simp) (AllReadyH.cons rfl (fun K hK => ?_) AllReadyH.nil)
                go_simp; go_at_call 39; with_reducible refine (C1.out _ hS.2.2.2.2.1).mono ?_; rintro ee w9 ⟨rfl, hb⟩; go_wp2_with fail
                refine hK.out _ _ ⟨(hb.cell (p := ⟨wr.heap.size, 0, none⟩) hS.2.2.2.1).trans hS.1, (hb.cell (p := ⟨wr.heap.size, 1, none⟩) hS.2.2.2.1).trans hS.2.1, (hb.cell (p := ⟨wr.heap.size, 2, none⟩) hS.2.2.2.1).trans hS.2.2.1, Nat.lt_of_lt_of_le hS.2.2.2.1 hb.size, Gr.trans hS.2.2.2.2.1 hb, (hb.cell (p := ⟨b, off + p * 3, none⟩) hS.2.2.2.2.2.2).trans hS.2.2.2.2.2.1, Nat.lt_of_lt_of_le hS.2.2.2.2.2.2 hb.size⟩ (fun hS => ?_)
                clear hK K
                try simp only [Act.put, List.setIfInBounds_toArray, List.set_cons_zero, List.set_cons_succ]
                refine wpAnyH_goes 2 (v := ?_) rfl rfl (by kernel_rfl) (by kernel_rfl) (by kernel_rfl) (fun _ _ _ h => h) (by rfl) (fun w9 hw9 => ?_) hS ?_
                rotate_left
                · (try dsimp only at hw9); go_simp; try with_reducible rfl
                try simp only [Act.put, List.setIfInBounds_toArray, List.set_cons_zero, List.set_cons_succ]
                refine wpAnyH_goes 3 (v := ?_) rfl rfl (by kernel_rfl) (by kernel_rfl) (by kernel_rfl) (fun _ _ _ h => h) (by rfl) (fun w9 hw9 => ?_) hS ?_
                rotate_left
                · (try dsimp only at hw9); go_simp; try with_reducible rfl
                try simp only [Act.put, List.setIfInBounds_toArray, List.set_cons_zero, List.set_cons_succ]
                refine wpAnyH_goes 4 (v := ?_) rfl rfl (by kernel_rfl) (by kernel_rfl) (by kernel_rfl) (fun _ _ _ h => h) (by rfl) (fun w9 hw9 => ?_) hS ?_
                rotate_left
                · (try dsimp only at hw9); go_simp; try with_reducible rfl
                try simp only [Act.put, List.setIfInBounds_toArray, List.set_cons_zero, List.set_cons_succ]
                refine wpAnyH_ready (rs := [5]) (by kernel_rfl) (by simp) (AllReadyH.cons rfl (fun K hK => ?_) AllReadyH.nil)
                go_simp; go_at_call 40; with_reducible refine (C2.out _).mono ?_; rintro ee w9 ⟨rfl, hb⟩; go_wp2_with fail
                refine hK.out _ _ ⟨(hb.cell (p := ⟨wr.heap.size, 0, none⟩) hS.2.2.2.1).trans hS.1, (hb.cell (p := ⟨wr.heap.size, 1, none⟩) hS.2.2.2.1).trans hS.2.1, (hb.cell (p := ⟨wr.heap.size, 2, none⟩) hS.2.2.2.1).trans hS.2.2.1, Nat.lt_of_lt_of_le hS.2.2.2.1 hb.size, Gr.trans hS.2.2.2.2.1 hb, (hb.cell (p := ⟨b, off + p * 3, none⟩) hS.2.2.2.2.2.2).trans hS.2.2.2.2.2.1, Nat.lt_of_lt_of_le hS.2.2.2.2.2.2 hb.size⟩ (fun hS => ?_)
                clear hK K
                try simp only [Act.put, List.setIfInBounds_toArray, List.set_cons_zero, List.set_cons_succ]
                refine wpAnyH_goes 6 (v := ?_) rfl rfl (by kernel_rfl) (by kernel_rfl) (by kernel_rfl) (fun _ _ _ h => h) (by rfl) (fun w9 hw9 => ?_) hS ?_
                rotate_left
                · (try dsimp only at hw9); go_simp; try with_reducible rfl
                try simp only [Act.put, List.setIfInBounds_toArray, List.set_cons_zero, List.set_cons_succ]
                refine wpAnyH_goes 7 (v := ?_) rfl rfl (by kernel_rfl) (by kernel_rfl) (by kernel_rfl) (fun _ _ _ h => h) (by rfl) (fun w9 hw9 => ?_) hS ?_
                rotate_left
                · (try dsimp only at hw9); go_simp; try with_reducible rfl
                try simp only [Act.put, List.setIfInBounds_toArray, List.set_cons_zero, List.set_cons_succ]
                refine wpAnyH_goes 8 (v := ?_) rfl rfl (by kernel_rfl) (by kernel_rfl) (by kernel_rfl) (fun _ _ _ h => h) (by rfl) (fun w9 hw9 => ?_) hS ?_
                rotate_left
                · (try dsimp only at hw9); go_simp; try with_reducible rfl
                try simp only [Act.put, List.setIfInBounds_toArray, List.set_cons_zero, List.set_cons_succ]
                refine wpAnyH_goes 9 (v := .bool true) rfl rfl (by kernel_rfl) (by kernel_rfl) (by kernel_rfl) (fun _ _ _ h => h) (by rfl) (fun w9 hw9 => ?_) hS ?_
                · (try dsimp only at hw9); go_simp; first | done | omega | (simp [*]; done) | (simp; omega)
                try simp only [Act.put, List.setIfInBounds_toArray, List.set_cons_zero, List.set_cons_succ]
                refine wpAnyH_goes 10 (v := ?_) rfl rfl (by kernel_rfl) (by kernel_rfl) (by kernel_rfl) (fun _ _ _ h => h) (by rfl) (fun w9 hw9 => ?_) hS ?_
                rotate_left
                · (try dsimp only at hw9); go_simp; try with_reducible rfl
                try simp only [Act.put, List.setIfInBounds_toArray, List.set_cons_zero, List.set_cons_succ]
                refine wpAnyH_goes 11 (v := ?_) rfl rfl (by kernel_rfl) (by kernel_rfl) (by kernel_rfl) (fun _ _ _ h => h) (by rfl) (fun w9 hw9 => ?_) hS ?_
                rotate_left
                · (try dsimp only at hw9); go_simp; try with_reducible rfl
                try simp only [Act.put, List.setIfInBounds_toArray, List.set_cons_zero, List.set_cons_succ]
                refine wpAnyH_goes 12 (v := ?_) rfl rfl (by kernel_rfl) (by kernel_rfl) (by kernel_rfl) (fun _ _ _ h => h) (by rfl) (fun w9 hw9 => ?_) hS ?_
                rotate_left
                · (try dsimp only at hw9); go_simp; try with_reducible rfl
                try simp only [Act.put, List.setIfInBounds_toArray, List.set_cons_zero, List.set_cons_succ]
                refine wpAnyH_goes 13 (v := ?_) rfl rfl (by kernel_rfl) (by kernel_rfl) (by kernel_rfl) (fun _ _ _ h => h) (by rfl) (fun w9 hw9 => ?_) hS ?_
                rotate_left
                · (try dsimp only at hw9); go_simp; try with_reducible rfl
                try simp only [Act.put, List.setIfInBounds_toArray, List.set_cons_zero, List.set_cons_succ]
                refine wpAnyH_goes 14 (v := ?_) rfl rfl (by kernel_rfl) (by kernel_rfl) (by kernel_rfl) (fun _ _ _ h => h) (by rfl) (fun w9 hw9 => ?_) hS ?_
                rotate_left
                · (try dsimp only at hw9); go_simp; try with_reducible rfl
                try simp only [Act.put, List.setIfInBounds_toArray, List.set_cons_zero, List.set_cons_succ]
                refine wpAnyH_goes 15 (v := ?_) rfl rfl (by kernel_rfl) (by kernel_rfl) (by kernel_rfl) (fun _ _ _ h => h) (by rfl) (fun w9 hw9 => ?_) hS ?_
                rotate_left
                · (try dsimp only at hw9); go_simp; try with_reducible rfl
                try simp only [Act.put, List.setIfInBounds_toArray, List.set_cons_zero, List.set_cons_succ]
                refine wpAnyH_goes 16 (v := ?_) rfl rfl (by kernel_rfl) (by kernel_rfl) (by kernel_rfl) (fun _ _ _ h => h) (by rfl) (fun w9 hw9 => ?_) hS ?_
                rotate_left
                · (try dsimp only at hw9); go_simp; try with_reducible rfl
                try simp only [Act.put, List.setIfInBounds_toArray, List.set_cons_zero, List.set_cons_succ]
                refine wpAnyH_goes 17 (v := ?_) rfl rfl (by kernel_rfl) (by kernel_rfl) (by kernel_rfl) (fun _ _ _ h => h) (by rfl) (fun w9 hw9 => ?_) hS ?_
                rotate_left
                · (try dsimp only at hw9); go_simp; try with_reducible rfl
                try simp only [Act.put, List.setIfInBounds_toArray, List.set_cons_zero, List.set_cons_succ]
                refine wpAnyH_goes 18 (v := ?_) rfl rfl (by kernel_rfl) (by kernel_rfl) (by kernel_rfl) (fun _ _ _ h => h) (by rfl) (fun w9 hw9 => ?_) hS ?_
                rotate_left
                · (try dsimp only at hw9); go_simp; try with_reducible rfl
                try simp only [Act.put, List.setIfInBounds_toArray, List.set_cons_zero, List.set_cons_succ]
                refine wpAnyH_ready (rs := [19]) (by kernel_rfl) (by simp) (AllReadyH.cons rfl (fun K hK => ?_) AllReadyH.nil)
                go_simp; go_at_call 41; with_reducible refine (C3.out _).mono ?_; rintro ee w9 ⟨rfl, rfl⟩; go_wp2_with fail
                refine hK.out _ _ hS (fun hS => ?_)
                clear hK K
                try simp only [Act.put, List.setIfInBounds_toArray, List.set_cons_zero, List.set_cons_succ]
                refine wpAnyH_goes 20 (v := ?_) rfl rfl (by kernel_rfl) (by kernel_rfl) (by kernel_rfl) (fun _ _ _ h => h) (by rfl) (fun w9 hw9 => ?_) hS ?_
                rotate_left
                · (try dsimp only at hw9); go_simp; try with_reducible rfl
                try simp only [Act.put, List.setIfInBounds_toArray, List.set_cons_zero, List.set_cons_succ]
                refine wpAnyH_goes 21 (v := ?_) rfl rfl (by kernel_rfl) (by kernel_rfl) (by kernel_rfl) (fun _ _ _ h => h) (by rfl) (fun w9 hw9 => ?_) hS ?_
                rotate_left
                · (try dsimp only at hw9); go_simp; try with_reducible rfl
                try simp only [Act.put, List.setIfInBounds_toArray, List.set_cons_zero, List.set_cons_succ]
                refine wpAnyH_goes 22 (v := ?_) rfl rfl (by kernel_rfl) (by kernel_rfl) (by kernel_rfl) (fun _ _ _ h => h) (by rfl) (fun w9 hw9 => ?_) hS ?_
                rotate_left
                · (try dsimp only at hw9); go_simp; try with_reducible rfl
                try simp only [Act.put, List.setIfInBounds_toArray, List.set_cons_zero, List.set_cons_succ]
                refine wpAnyH_done (by kernel_rfl) ?_ _
                obtain ⟨q0, q1, q2, q3, q4, q5, q6⟩ := hS
                have GF := Lib.hid (GX.out.trans q4)
                clear q0 q1 q2 q3 q4 q5 q6
                go_wp2_with fail
                go_ret
                exact ⟨rfl, GF.out⟩
      · obtain rfl : k = n := by omega
        obtain rfl : v = true := HV.out.2 ⟨by omega, by have := HT.out; rwa [← hlen, List.take_length] at this⟩
        clear HV
        have G1 := HG
        go_wp2_with fail
        go_ret
        exact ⟨rfl, G1.out⟩
  · obtain rfl : v = false := by
      cases v
      · rfl
      · have := (HV.out.1 rfl).1; omega
    have h1 : (64 : Int) < (n : Int) := by omega
    clear HV
    go_enter Try.func26, Try.ntmps26
    go_wp2_with fail
    go_ret
    exact ⟨rfl, Gr.refl _⟩
end
end Go.Proofs.Ytmkkeknimpjfoaa
