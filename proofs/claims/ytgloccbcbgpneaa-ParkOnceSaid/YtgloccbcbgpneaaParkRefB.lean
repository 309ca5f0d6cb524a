/-
  deadboltref11: With, Park, Ready, End, Runnable.
-/
import Derived.Test.YtgloccbcbgpneaaParkRef
import Derived.OwnWalk
namespace Go.Proofs.Ytgloccbcbgpneaa
open Go.ChangeShapes Go.WideShapes Go.ChangeAt Go.RowKit
set_option linter.unusedVariables false
namespace P11

theorem own_mem {wr : World} {base n : Nat} {v : Value} {l : List G} (hl : l.length = n) (hb : ∀ x ∈ l, B64 x.1) (h : wr.ownsRow base 40 2 v n (flat l)) : ∃ B m, v = .slice B n m ∧ GMem wr B n l := by
  rcases h.2 with ⟨rfl, rfl⟩ | ⟨g, cap, cur, rfl, _, hg, _, _, hs, ht⟩
  · exact ⟨none, 0, rfl, hl, hb, fun h => absurd h (by omega)⟩
  · refine ⟨_, _, rfl, hl, hb, fun _ => ⟨g, 0, rfl, (Array.getElem?_eq_some_iff.1 hg).1, fun j u hu => ?_⟩⟩
    rw [Nat.zero_add, cell_of_row wr g j cur _ (0, 0) hg]
    rw [← ht, List.getElem?_take] at hu
    split at hu
    · simpa using hu
    · cases hu
theorem take_snoc {L : List G} {k : Nat} {y : G} (h : L[k]? = some y) : flat (L.take (k + 1)) = flat (L.take k) ++ [.int .i64 y.1, .bool y.2] := by
  obtain ⟨hk, rfl⟩ := List.getElem?_eq_some_iff.1 h
  rw [List.take_succ_eq_append_getElem hk, flat_append]
  rfl
theorem new2 (w : World) (o o' : Obj) : ((w.alloc o).alloc o').heap[w.heap.size + 1]? = some o' := by
  have := heap_alloc_new (w.alloc o) o'
  simpa using this
/-- A new row. -/
def GotRow (w : World) (l : List G) (e : Ending) (w' : World) : Prop :=
  ∃ B m, e = .returned (.slice B l.length m) ∧ GMem w' B l.length l ∧ Gr w w'

section
variable {A : Option Addr} {n c : Nat} {l : List G} {w : World}
set_option maxHeartbeats 4000000 in
theorem With_ok {i : Nat} {g : G} (h64 : n ≤ 64) (hi : i < n) (hg : B64 g.1) (hm : GMem w A n l) :
    Calls Try.prog 30 #[.slice A n c, .int .i64 (i : Int), .agg #[.int .i64 g.1, .bool g.2]] w (GotRow w (l.set i g)) := by
  obtain ⟨i0, hi0, hz0, hz1, hz2⟩ := info_parts infoGor
  obtain ⟨L, hL⟩ : ∃ L, l.set i g = L := ⟨_, rfl⟩
  have HL := Lib.hid hL
  rw [hL]
  have hLl := Lib.hid (show L.length = n by rw [← hL, List.length_set, hm.1])
  have hLb := Lib.hid (show ∀ z ∈ L, B64 z.1 by rw [← hL]; exact b64_set hm.2.1 hg)
  have HX := Lib.hid (show L[i]? = some g by rw [← hL, List.getElem?_set_self (by rw [hm.1]; exact hi)])
  have HO := Lib.hid (show ∀ j, j ≠ i → L[j]? = l[j]? from fun j hj => by rw [← hL, List.getElem?_set_ne (Ne.symm hj)])
  have B0 := Blk.new w #[.int .i64 g.1, .bool g.2] 40
  have hm0 := hm.gr ((Gr.refl w).al (.cells #[.int .i64 g.1, .bool g.2] 40))
  have HM := Lib.hid hm0
  have HB0 := Lib.hid B0
  obtain ⟨g1, g2⟩ := g
  clear hL hm B0 hm0
  go_enter Try.func30, Try.ntmps30
  go_wp2_with fail
  replace hz0 := Lib.hid hz0
  replace hz1 := Lib.hid hz1
  replace hz2 := Lib.hid hz2
  replace hi0 := Lib.hid hi0
  go_loopw [7, 13] (fun o q wr => ∃ k : Nat, k ≤ n ∧ q = .int .i64 k ∧ Hid (wr.ownsRow (w.heap.size + 1) 40 2 o k (flat (L.take k))) ∧ Hid (Gr (w.alloc (.cells #[.int .i64 g1, .bool g2] 40)) wr)) (fun _ q _ => n - (intOf q).toNat)
  case atStart => exact ⟨0, Nat.zero_le _, rfl, Lib.hid (by have h := World.ownsRow_made (e := 40) (size := 2) (w.alloc (.cells #[.int .i64 g1, .bool g2] 40)) #[] 0 (show w.heap.size + 1 ≤ (w.alloc (.cells #[.int .i64 g1, .bool g2] 40)).heap.size by simp) (by unfold maxLen; omega) rfl; simpa [flat] using h), Lib.hid ((Gr.refl _).al _)⟩
  case round =>
    obtain ⟨k, hkn, rfl, hown, hG⟩ := hrel
    by_cases hlt : k < n
    · obtain ⟨b, off, y, rfl, hbl, hy, h1, c0, c1⟩ := (HM.out.gr hG.out).at_ hlt
      obtain ⟨q0, q1⟩ : wr.cell? ⟨w.heap.size, 0, none⟩ = some (.int .i64 g1) ∧ wr.cell? ⟨w.heap.size, 1, none⟩ = some (.bool g2) := ⟨((HB0.out.gr hG.out).at_ rfl).1, ((HB0.out.gr hG.out).at_ rfl).1⟩
      have hne : b ≠ wr.heap.size := by omega
      have hws : w.heap.size < wr.heap.size := (HB0.out.gr hG.out).lt
      have hwe : w.heap.size ≠ wr.heap.size := by omega
      obtain ⟨y1, y2⟩ := y
      dsimp only at c0 c1 h1
      by_cases hki : k = i
      · subst hki
        clear hy
        go_wp2_with (at_builtin; refine wpList_append_own _ rfl (.tmp 22) (.tmp 24) 22 rfl (w.heap.size + 1) 40 i0 (.agg #[.int .i64 0, .bool false]) 2 16 Try.underlying22 hi0.out hz0.out hz1.out hz2.out rfl (by decide) _ _ _ rfl ((hown.out.alloc _).alloc _) ⟨wr.heap.size + 1, 0, none⟩ 1 1 [.int .i64 g1, .bool g2] rfl rfl (World.news_of_block (cs := #[.int .i64 g1, .bool g2]) (t := 40) (fr := (0, 0)) (new2 wr _ _)) ?c2 ?c3 ?c4 ?c5 ?_)
        case c2 => simp [Value.oneCell']
        case c3 => unfold maxLen; omega
        case c4 => omega
        case c5 => have := hG.out.size; simp at this ⊢; omega
        intro v' w1 hown' hgrow _
        have ho2 : Hid (w1.ownsRow (w.heap.size + 1) 40 2 v' (k + 1) (flat (L.take (k + 1)))) := Lib.hid (by rw [take_snoc HX.out]; exact hown')
        have hg1 := Lib.hid (((hG.out.al _).al _).gb hgrow (fun q hq => by have := (hown.out.lt q hq).1; simpa using this))
        clear hown' hgrow
        go_wp2_with fail
        go_roundw
        case rel => exact ⟨k + 1, by omega, by go_num, ho2, hg1⟩
        case measure => simp [intOf]; omega
      · have HY := Lib.hid (show L[k]? = some (y1, y2) by rw [HO.out k hki]; exact hy)
        have h3 : ((k : Int) == (i : Int)) = false := by rw [beq_eq_false_iff_ne]; omega
        clear hy
        go_wp2_with (at_builtin; refine wpList_append_own _ rfl (.tmp 22) (.tmp 24) 22 rfl (w.heap.size + 1) 40 i0 (.agg #[.int .i64 0, .bool false]) 2 16 Try.underlying22 hi0.out hz0.out hz1.out hz2.out rfl (by decide) _ _ _ rfl ((hown.out.alloc _).alloc _) ⟨wr.heap.size + 1, 0, none⟩ 1 1 [.int .i64 y1, .bool y2] rfl rfl (World.news_of_block (cs := #[.int .i64 y1, .bool y2]) (t := 40) (fr := (0, 0)) (new2 wr _ _)) ?c2 ?c3 ?c4 ?c5 ?_)
        case c2 => simp [Value.oneCell']
        case c3 => unfold maxLen; omega
        case c4 => omega
        case c5 => have := hG.out.size; simp at this ⊢; omega
        intro v' w1 hown' hgrow _
        have ho2 : Hid (w1.ownsRow (w.heap.size + 1) 40 2 v' (k + 1) (flat (L.take (k + 1)))) := Lib.hid (by rw [take_snoc HY.out]; exact hown')
        have hg1 := Lib.hid (((hG.out.al _).al _).gb hgrow (fun q hq => by have := (hown.out.lt q hq).1; simpa using this))
        clear hown' hgrow
        go_wp2_with fail
        go_roundw
        case rel => exact ⟨k + 1, by omega, by go_num, ho2, hg1⟩
        case measure => simp [intOf]; omega
    · obtain rfl : k = n := by omega
      obtain ⟨B, m, hvB, hmB⟩ := own_mem hLl.out hLb.out (by have := hown.out; rwa [List.take_of_length_le (by have := hLl.out; omega)] at this)
      have hgw : Gr w wr := ((Gr.refl w).al _).trans hG.out
      clear hown
      subst hvB
      go_wp2_with fail
      go_ret
      refine ⟨B, m, ?_, ?_, hgw⟩
      · rw [hLl.out]; rfl
      · rw [hLl.out]; exact hmB

/-- What the reference answers: a row and an error. -/
def GotR (w : World) (r : Int × List G) (e : Ending) (w' : World) : Prop :=
  ∃ B m, e = .returned (.tuple #[.slice B r.2.length m, .int .i64 r.1]) ∧ GMem w' B r.2.length r.2 ∧ Gr w w'
theorem gotR_err {w w' : World} (q : Int) (h : Gr w w') : GotR w (q, []) (.returned (.tuple #[.slice none 0 0, .int .i64 q])) w' :=
  ⟨none, 0, rfl, GMem.nil_, h⟩
set_option maxHeartbeats 2000000 in
theorem rPark_is {i : Nat} {x : G} (h64 : n ≤ 64) (hx : l[i]? = some x) (hm : GMem w A n l) :
    Calls Try.prog 18 #[.slice A n c, .int .i64 (i : Int)] w (GotR w (if (pkG x).1 = 0 then (0, l.set i (pkG x).2) else ((pkG x).1, []))) := by
  have hi : i < n := by have := (List.getElem?_eq_some_iff.1 hx).1; have := hm.1; omega
  obtain ⟨b, off, y, rfl, hbl, hy, h1, c0, c1⟩ := hm.at_ hi
  obtain rfl : x = y := by rw [hx] at hy; exact Option.some.inj hy
  have i0 : (0 : Int) ≤ (i : Int) := by omega
  have i1 : (i : Int) < (n : Int) := by omega
  have hne : b ≠ w.heap.size := by omega
  have cW := fun (g : G) (hg : B64 g.1) o => Lib.hid (With_ok (c := c) (g := g) h64 hi hg (hm.gr ((Gr.refl w).al o)))
  obtain ⟨s, p⟩ := x
  clear hx hy hm
  by_cases hs : s = 0
  · subst hs
    cases p
    · have cV := fun o => Lib.hid (cW (1, false) ⟨by decide, by decide⟩ o).out
      clear cW
      rw [show pkG (0, false) = (0, (1, false)) from rfl, if_pos rfl]
      go_enter Try.func18, Try.ntmps18
      go_wp2_with fail
      with_reducible refine (cV _).out.mono ?_
      rintro e w1 ⟨B, m, rfl, hB, g1⟩
      have HB := Lib.hid hB
      have HG := Lib.hid (((Gr.refl w).al _).trans g1)
      clear hB g1
      go_wp2_with fail
      go_ret2
      exact ⟨B, m, by simp, HB.out, HG.out⟩
    · have cV := fun o => Lib.hid (cW (0, false) ⟨by decide, by decide⟩ o).out
      clear cW
      rw [show pkG (0, true) = (0, (0, false)) from rfl, if_pos rfl]
      go_enter Try.func18, Try.ntmps18
      go_wp2_with fail
      with_reducible refine (cV _).out.mono ?_
      rintro e w1 ⟨B, m, rfl, hB, g1⟩
      have HB := Lib.hid hB
      have HG := Lib.hid (((Gr.refl w).al _).trans g1)
      clear hB g1
      go_wp2_with fail
      go_ret2
      exact ⟨B, m, by simp, HB.out, HG.out⟩
  · have ne : (s == 0) = false := beq_eq_false_iff_ne.2 hs
    clear cW
    rw [show pkG (s, p) = (6, (s, p)) by simp [pkG, hs], if_neg (by simp)]
    go_enter Try.func18, Try.ntmps18
    go_wp2_with fail
    go_ret2
    exact gotR_err 6 ((Gr.refl w).al _)
set_option maxHeartbeats 2000000 in
theorem rEnd_is {i : Nat} {x : G} (h64 : n ≤ 64) (hx : l[i]? = some x) (hm : GMem w A n l) :
    Calls Try.prog 20 #[.slice A n c, .int .i64 (i : Int)] w (GotR w (if (enG x).1 = 0 then (0, l.set i (enG x).2) else ((enG x).1, []))) := by
  have hi : i < n := by have := (List.getElem?_eq_some_iff.1 hx).1; have := hm.1; omega
  obtain ⟨b, off, y, rfl, hbl, hy, h1, c0, c1⟩ := hm.at_ hi
  obtain rfl : x = y := by rw [hx] at hy; exact Option.some.inj hy
  have i0 : (0 : Int) ≤ (i : Int) := by omega
  have i1 : (i : Int) < (n : Int) := by omega
  have cW := fun (g : G) (hg : B64 g.1) => Lib.hid (With_ok (c := c) (g := g) h64 hi hg hm)
  obtain ⟨s, p⟩ := x
  clear hx hy hm
  by_cases hs : s = 0
  · subst hs
    have cV := Lib.hid (cW (2, false) ⟨by decide, by decide⟩).out
    clear cW
    rw [show enG (0, p) = (0, (2, false)) from rfl, if_pos rfl]
    go_enter Try.func20, Try.ntmps20
    go_wp2_with fail
    with_reducible refine cV.out.mono ?_
    rintro e w1 ⟨B, m, rfl, hB, g1⟩
    have HB := Lib.hid hB
    have HG := Lib.hid g1
    clear hB g1
    go_wp2_with fail
    go_ret2
    exact ⟨B, m, by simp, HB.out, HG.out⟩
  · have ne : (s == 0) = false := beq_eq_false_iff_ne.2 hs
    clear cW
    rw [show enG (s, p) = (6, (s, p)) by simp [enG, hs], if_neg (by simp)]
    go_enter Try.func20, Try.ntmps20
    go_wp2_with fail
    go_ret2
    exact gotR_err 6 (Gr.refl w)
set_option maxHeartbeats 2000000 in
theorem rReady_is {i : Nat} {x : G} (h64 : n ≤ 64) (hx : l[i]? = some x) (hm : GMem w A n l) :
    Calls Try.prog 19 #[.slice A n c, .int .i64 (i : Int)] w (GotR w (if (rdG x).1 = 0 then (0, l.set i (rdG x).2) else ((rdG x).1, []))) := by
  have hi : i < n := by have := (List.getElem?_eq_some_iff.1 hx).1; have := hm.1; omega
  obtain ⟨b, off, y, rfl, hbl, hy, h1, c0, c1⟩ := hm.at_ hi
  obtain rfl : x = y := by rw [hx] at hy; exact Option.some.inj hy
  have i0 : (0 : Int) ≤ (i : Int) := by omega
  have i1 : (i : Int) < (n : Int) := by omega
  have hne : b ≠ w.heap.size := by omega
  have cW := fun (g : G) (hg : B64 g.1) o => Lib.hid (With_ok (c := c) (g := g) h64 hi hg (hm.gr ((Gr.refl w).al o)))
  obtain ⟨s, p⟩ := x
  clear hx hy hm
  by_cases hs : s = 2
  · subst hs
    clear cW
    rw [show rdG (2, p) = (6, (2, p)) by simp [rdG], if_neg (by simp)]
    go_enter Try.func19, Try.ntmps19
    go_wp2_with fail
    go_ret2
    exact gotR_err 6 ((Gr.refl w).al _)
  · have ne : (s == 2) = false := beq_eq_false_iff_ne.2 hs
    cases p
    · obtain ⟨Z, hZ⟩ : ∃ Z, (s == 0) = Z := ⟨_, rfl⟩
      have cV := fun o => Lib.hid (cW (0, Z) (show B64 0 from ⟨by decide, by decide⟩) o).out
      clear cW
      rw [show rdG (s, false) = (0, (0, Z)) by simp [rdG, hs, hZ], if_pos rfl]
      go_enter Try.func19, Try.ntmps19
      go_wp2_with fail
      with_reducible refine (cV _).out.mono ?_
      rintro e w1 ⟨B, m, rfl, hB, g1⟩
      have HB := Lib.hid hB
      have HG := Lib.hid (((Gr.refl w).al _).trans g1)
      clear hB g1
      go_wp2_with fail
      go_ret2
      exact ⟨B, m, by simp, HB.out, HG.out⟩
    · clear cW
      rw [show rdG (s, true) = (7, (s, true)) by simp [rdG, hs], if_neg (by simp)]
      go_enter Try.func19, Try.ntmps19
      go_wp2_with fail
      go_ret2
      exact gotR_err 7 ((Gr.refl w).al _)
set_option maxHeartbeats 2000000 in
theorem rRunnable_is (h8 : n ≤ 64) (hm : GMem w A n l) :
    Calls Try.prog 16 #[.slice A n c] w fun e w' => ∃ C d, e = .returned (.slice C (rn l).length d) ∧ IOwn w.heap.size w' C (rn l).length d (rn l) ∧ Gr w w' := by
  obtain ⟨i0, hi0, hz0, hz1, hz2⟩ := info_parts infoInt
  have HZ := Lib.hid hz0
  have HZ1 := Lib.hid hz1
  have HZ2 := Lib.hid hz2
  have HI0 := Lib.hid hi0
  have HM := Lib.hid hm
  clear hz0 hz1 hz2 hi0 hm
  have o0 := Lib.hid (omem_empty (enc := Value.int .i64) (ok := B64) w 3 (Nat.le_refl _))
  have g0 := Lib.hid ((Gr.refl w).al (.cells #[] 3))
  go_enter Try.func16, Try.ntmps16
  go_wp2_with fail
  go_loopw [3, 9] (fun L i wr => ∃ (k q : Nat) (C : Option Addr) (d : Nat), k ≤ n ∧ q ≤ k ∧ i = .int .i64 (k : Int) ∧ L = .slice C q d ∧ Hid (IOwn w.heap.size wr C q d (rnK l k)) ∧ Hid (Gr w wr)) (fun _ i _ => n - (intOf i).toNat)
  case atStart => exact ⟨0, 0, _, 0, Nat.zero_le _, Nat.zero_le _, rfl, rfl, o0, g0⟩
  case round =>
    obtain ⟨k, q, C, d, hk, hq, rfl, rfl, HO, HG⟩ := hrel
    by_cases hlt : k < n
    · obtain ⟨b, off, x, rfl, hbl, hx, hix, cx, cy⟩ := (HM.out.gr HG.out).at_ hlt
      have HX := Lib.hid hx
      clear hx
      obtain ⟨s, p⟩ := x
      by_cases he : s = 0
      · subst he
        have H1 := Lib.hid (rnK_yes HX.out rfl)
        go_wp2_with (at_builtin; refine Mark.stop ?_)
        refine Mark.go ?_
        refine wpList_append_omem _ (Value.int .i64) B64 rfl (.tmp 17) (.tmp 19) 27 rfl (fun _ => rfl) w.heap.size 3 i0 (.int .i64 0) 8 Try.underlying27 HI0.out HZ.out HZ1.out HZ2.out rfl C q d _ rfl (HO.out.gr (((Gr.refl _).al _).al _)) _ 1 1 [(k : Int)] rfl (emem_one' _ (k : Int) ⟨by omega, by omega⟩ _ (by simp)) (by unfold maxLen; omega) (by omega) ((HG.out.al _).al _).size ?_
        intro C3 k3 w3 own3 gb3
        rw [← H1.out] at own3
        have O3 := Lib.hid own3
        have G3 := Lib.hid (((HG.out.al (.cells #[.int .i64 0, .bool p] 40)).al (.cells #[.int .i64 (k : Int)] 3)).gb gb3 (fun k hk => (HO.out.lt k hk).1))
        clear gb3 own3
        go_wp2_with fail
        go_roundw
        case rel => exact ⟨k + 1, q + 1, C3, k3, by omega, by omega, by go_num, rfl, O3, G3⟩
        case measure => simp [intOf]; omega
      · have ne : (s == 0) = false := beq_eq_false_iff_ne.2 he
        have H1 := Lib.hid (rnK_no HX.out he)
        go_wp2_with fail
        go_roundw
        case rel => exact ⟨k + 1, q, C, d, by omega, by omega, by go_num, rfl, Lib.hid (by rw [H1.out]; exact HO.out.gr ((Gr.refl _).al _)), Lib.hid (HG.out.al _)⟩
        case measure => simp [intOf]; omega
    · obtain rfl : k = n := by omega
      have own := HO.out
      rw [← HM.out.1] at own
      have hq : q = (rn l).length := own.mem.1.symm
      subst hq
      go_wp2_with fail
      go_ret
      exact ⟨C, d, rfl, own, HG.out⟩
end
end P11
end Go.Proofs.Ytgloccbcbgpneaa
