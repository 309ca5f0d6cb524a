/-
  deadboltref02: what its functions answer.
-/
import Derived.Test.YtcfgkldlhlnniaaCellOrd
import Derived.Test.YtcfgkldlhlnniaaWordRefA
import Derived.OwnWalk
import Derived.Deep.AppendLies
namespace Go.Proofs.Ytcfgkldlhlnniaa
open Go.ChangeShapes Go.WideShapes Go.ChangeAt Go.RowKit
set_option linter.unusedVariables false

set_option maxHeartbeats 1000000 in
theorem rRight_ok (A : Option Addr) (n c : Nat) (l : List (Int × Int)) (w : World) (hm : Mem w A n l) (hn : n ≤ 9223372036854775807) :
    Calls Try.prog 13 #[.slice A n c] w fun e w' => e = .returned (.bool (rightB l)) ∧ Gr w w' := by
  go_enter Try.func13, Try.ntmps13
  go_wp2_with fail
  go_loopw [7] (fun i wr => ∃ k : Nat, k ≤ n ∧ i = .int .i64 k ∧ Hid ((l.drop k).all okB = l.all okB) ∧ Gr w wr) (fun i _ => n - (intOf i).toNat)
  case atStart => exact ⟨0, Nat.zero_le _, rfl, Lib.hid rfl, Gr.refl _⟩
  case round =>
    obtain ⟨k, hk, rfl, HB, hg⟩ := hrel
    by_cases hlt : k < n
    · obtain ⟨b, off, x, rfl, hbl, hx, h1, h2, c0, c1⟩ := (hm.gr hg).at_ hlt
      have hd : l.drop k = x :: l.drop (k + 1) := by
        obtain ⟨hl, rfl⟩ := List.getElem?_eq_some_iff.1 hx
        exact List.drop_eq_getElem_cons hl
      have hne : b ≠ wr.heap.size := by omega
      cases hf : okB x
      · have hr : rightB l = false := by unfold rightB; rw [← HB.out, hd]; simp [hf]
        have cc := fun w => Lib.hid (show Calls Try.prog 30 #[.int .i64 x.1, .int .i64 x.2] w fun e w' => e = .returned (.bool false) ∧ w' = w from by have := rFits_ok x.1 x.2 w; rwa [show fitB x.1 x.2 = false from hf] at this)
        have HR := Lib.hid hr
        clear hr hd hf hx HB hm
        go_wp2_with fail
        refine (cc _).out.mono ?_
        rintro e w1 ⟨rfl, rfl⟩
        go_wp2_with fail
        go_ret
        rw [HR.out]
        exact ⟨rfl, hg.al _⟩
      · have hr : Hid ((l.drop (k + 1)).all okB = l.all okB) := Lib.hid (by rw [← HB.out, hd]; simp [hf])
        have cc := fun w => Lib.hid (show Calls Try.prog 30 #[.int .i64 x.1, .int .i64 x.2] w fun e w' => e = .returned (.bool true) ∧ w' = w from by have := rFits_ok x.1 x.2 w; rwa [show fitB x.1 x.2 = true from hf] at this)
        clear hd hf hx HB hm
        go_wp2_with fail
        refine (cc _).out.mono ?_
        rintro e w1 ⟨rfl, rfl⟩
        go_wp2_with fail
        go_roundw
        case rel => exact ⟨k + 1, by omega, by go_num, hr, hg.al _⟩
        case measure => simp [intOf]; omega
    · obtain rfl : k = n := by omega
      have hr : rightB l = decide (k ≤ 64) := by
        unfold rightB
        rw [← HB.out, List.drop_of_length_le (by have := hm.1; omega), hm.1]
        simp
      have HR := Lib.hid hr
      clear hr HB hm
      go_wp2_with fail
      go_ret
      rw [HR.out]
      exact ⟨ret_bool (decide_eq_decide.2 (by omega)), hg⟩
theorem rRight_is {A : Option Addr} {n c : Nat} {l : List (Int × Int)} {r : Bool} (hr : rightB l = r) (hn : n ≤ 9223372036854775807) (w : World) (hm : Mem w A n l) :
    Calls Try.prog 13 #[.slice A n c] w fun e w' => e = .returned (.bool r) ∧ Gr w w' := hr ▸ rRight_ok A n c l w hm hn

section
variable {A : Option Addr} {n c : Nat} {l : List (Int × Int)} {w : World}
set_option maxHeartbeats 400000 in
theorem Why_arg {a : Int} (hn : n ≤ 9223372036854775807) (hr : rightB l = false) (hm : Mem w A n l) :
    Calls Try.prog 15 #[.slice A n c, .int .i64 a] w fun e w' => e = .returned (.int .i64 1) ∧ Gr w w' := by
  have cc := Lib.hid (rRight_is (c := c) hr hn w hm)
  clear hr hm
  go_enter Try.func15, Try.ntmps15
  go_wp2_with fail
  refine cc.out.mono ?_
  rintro e w1 ⟨rfl, b1⟩
  go_wp2_with fail
  go_ret
  exact ⟨rfl, b1⟩
set_option maxHeartbeats 400000 in
theorem Why_range {a : Int} (hn : n ≤ 9223372036854775807) (hr : rightB l = true) (ha : a < 0 ∨ n ≤ a) (hm : Mem w A n l) :
    Calls Try.prog 15 #[.slice A n c, .int .i64 a] w fun e w' => e = .returned (.int .i64 3) ∧ Gr w w' := by
  have cc := Lib.hid (rRight_is (c := c) hr hn w hm)
  clear hr hm
  rcases ha with ha | ha
  · go_enter Try.func15, Try.ntmps15
    go_wp2_with fail
    refine cc.out.mono ?_
    rintro e w1 ⟨rfl, b1⟩
    go_wp2_with fail
    go_ret
    exact ⟨rfl, b1⟩
  · have h0 : decide (a < 0) = false := by simp; omega
    go_enter Try.func15, Try.ntmps15
    go_wp2_with fail
    refine cc.out.mono ?_
    rintro e w1 ⟨rfl, b1⟩
    go_wp2_with fail
    go_ret
    exact ⟨rfl, b1⟩
set_option maxHeartbeats 400000 in
theorem Why_ok {i : Nat} (hn : n ≤ 9223372036854775807) (hr : rightB l = true) (ha : i < n) (hm : Mem w A n l) :
    Calls Try.prog 15 #[.slice A n c, .int .i64 i] w fun e w' => e = .returned (.int .i64 0) ∧ Gr w w' := by
  have cc := Lib.hid (rRight_is (c := c) hr hn w hm)
  clear hr hm
  have hi0 : ¬ (i : Int) < 0 := by omega
  have hi1 : ¬ (n : Int) ≤ (i : Int) := by omega
  go_enter Try.func15, Try.ntmps15
  go_wp2_with fail
  refine cc.out.mono ?_
  rintro e w1 ⟨rfl, b1⟩
  go_wp2_with fail
  go_ret
  exact ⟨rfl, b1⟩

/-- A new memory l. -/
def GotRow (w : World) (n : Nat) (l : List (Int × Int)) (e : Ending) (w' : World) : Prop :=
  ∃ B m, e = .returned (.slice B n m) ∧ Mem w' B n l ∧ Gr w w'
theorem own_mem {wr : World} {base n : Nat} {v : Value} {l : List (Int × Int)} (hl : l.length = n) (hb : ∀ x ∈ l, Inb x.1 ∧ Inb x.2) (h : wr.ownsRow base 42 2 v n (flat l)) : ∃ B m, v = .slice B n m ∧ Mem wr B n l := by
  rcases h.2 with ⟨rfl, rfl⟩ | ⟨g, cap, cur, rfl, _, hg, _, _, hs, ht⟩
  · exact ⟨none, 0, rfl, hl, hb, fun h => absurd h (by omega)⟩
  · refine ⟨_, _, rfl, hl, hb, fun _ => ⟨g, 0, rfl, (Array.getElem?_eq_some_iff.1 hg).1, fun j u hu => ?_⟩⟩
    rw [Nat.zero_add, cell_of_row wr g j cur _ (0, 0) hg]
    rw [← ht, List.getElem?_take] at hu
    split at hu
    · simpa using hu
    · cases hu
theorem take_snoc {L : List (Int × Int)} {k : Nat} {y : Int × Int} (h : L[k]? = some y) : flat (L.take (k + 1)) = flat (L.take k) ++ [.int .i64 y.1, .int .i64 y.2] := by
  obtain ⟨hk, rfl⟩ := List.getElem?_eq_some_iff.1 h
  rw [List.take_succ_eq_append_getElem hk, flat_append]
  rfl
theorem infoCell' : (Try.prog.info? 42).map (fun i => (i.zero, i.size, i.bytes)) = some (some (.agg #[.int .i64 0, .int .i64 0]), 2, 16) := infoCell

set_option maxHeartbeats 4000000 in
theorem rStore_ok {i : Nat} {x : Int × Int} {v : Int} (h64 : n ≤ 64) (hr : rightB l = true) (hx : l[i]? = some x) (hv : Inb v) (hm : Mem w A n l) :
    Calls Try.prog 18 #[.slice A n c, .int .i64 i, .int .i64 v] w (GotRow w n (l.set i (x.1, wd x.1 v))) := by
  have hk := fit_kind (right_fit hr hx)
  obtain ⟨i0, hi0, hz0, hz1, hz2⟩ := info_parts infoCell
  obtain ⟨L, hL⟩ : ∃ L, l.set i (x.1, wd x.1 v) = L := ⟨_, rfl⟩
  have HL := Lib.hid hL
  have HZ := Lib.hid hz0
  have HX := Lib.hid hx
  rw [hL]
  have hLl := Lib.hid (show L.length = n by rw [← hL, List.length_set, hm.1])
  have hLb := Lib.hid (show ∀ z ∈ L, Inb z.1 ∧ Inb z.2 by
    intro z hz
    rw [← hL] at hz
    rcases List.mem_or_eq_of_mem_set hz with h | rfl
    · exact hm.2.1 z h
    · exact ⟨(hm.fits hx).1, wd_b _ _ hv⟩)
  clear hL hr hx hz0
  go_enter Try.func18, Try.ntmps18
  go_wp2_with fail
  replace hz1 := Lib.hid hz1
  replace hz2 := Lib.hid hz2
  replace hi0 := Lib.hid hi0
  go_loopw [7, 13] (fun o q wr => ∃ k : Nat, k ≤ n ∧ q = .int .i64 k ∧ wr.ownsRow w.heap.size 42 2 o k (flat (L.take k)) ∧ Gr w wr) (fun _ q _ => n - (intOf q).toNat)
  case atStart => exact ⟨0, Nat.zero_le _, rfl, World.ownsRow_made w #[] 0 (Nat.le_refl _) (by unfold maxLen; omega) rfl, (Gr.refl w).al _⟩
  case round =>
    obtain ⟨k, hkn, rfl, hown, hg⟩ := hrel
    by_cases hlt : k < n
    · obtain ⟨b, off, y, rfl, hbl, hy, h1, h2, c0, c1⟩ := (hm.gr hg).at_ hlt
      have hne : b ≠ wr.heap.size := by omega
      obtain ⟨y1, y2⟩ := y
      dsimp only at c0 c1 h1 h2
      by_cases hki : k = i
      · have HY := Lib.hid (show L[k]? = some (y1, wd y1 v) by
          have hyx : x = (y1, y2) := by have := HX.out; rw [← hki, hy] at this; exact (Option.some.inj this).symm
          rw [← HL.out, hki, hyx]
          exact get_set_eq (hki ▸ hy))
        have hk1 : 0 ≤ y1 ∧ y1 ≤ 2 := by
          have hyx : x = (y1, y2) := by have := HX.out; rw [← hki, hy] at this; exact (Option.some.inj this).symm
          rw [hyx] at hk
          exact hk
        have cc := fun w => Lib.hid (rWrap_ok y1 v w hk1)
        generalize wd y1 v = z at *
        subst hki
        clear hy hm
        go_wp2_with fail
        refine (cc _).out.mono ?_
        rintro e w1 ⟨rfl, rfl⟩
        go_wp2_with (at_builtin; refine wpList_append_own _ rfl (.tmp 26) (.tmp 28) 22 rfl w.heap.size 42 i0 (.agg #[.int .i64 0, .int .i64 0]) 2 16 Try.underlying22 hi0.out HZ.out hz1.out hz2.out rfl (by decide) _ _ _ rfl ((hown.alloc _).alloc _) ⟨wr.heap.size + 1, 0, none⟩ 1 1 [.int .i64 y1, .int .i64 z] rfl rfl (World.news_of_block (cs := #[.int .i64 y1, .int .i64 z]) (t := 42) (fr := (0, 0)) (new2 wr _ _)) ?c2 ?c3 ?c4 ?c5 ?_)
        case c2 => simp [Value.oneCell']
        case c3 => unfold maxLen; omega
        case c4 => omega
        case c5 => have := hg.size; simp; omega
        intro v' w1 hown' hgrow _
        have ho2 : w1.ownsRow w.heap.size 42 2 v' (k + 1) (flat (L.take (k + 1))) := by rw [take_snoc HY.out]; exact hown'
        have hg1 : Gr w w1 := ((hg.al _).al _).gb hgrow (fun q hq => (hown.lt q hq).1)
        clear hown' hgrow
        go_wp2_with fail
        go_roundw
        case rel => exact ⟨k + 1, by omega, by go_num, ho2, hg1⟩
        case measure => simp [intOf]; omega
      · have HY := Lib.hid (show L[k]? = some (y1, y2) by rw [← HL.out]; exact get_set_ne (fun h => hki h.symm) hy)
        have h3 : ((k : Int) == (i : Int)) = false := by rw [beq_eq_false_iff_ne]; omega
        clear hy hm
        go_wp2_with (at_builtin; refine wpList_append_own _ rfl (.tmp 26) (.tmp 28) 22 rfl w.heap.size 42 i0 (.agg #[.int .i64 0, .int .i64 0]) 2 16 Try.underlying22 hi0.out HZ.out hz1.out hz2.out rfl (by decide) _ _ _ rfl ((hown.alloc _).alloc _) ⟨wr.heap.size + 1, 0, none⟩ 1 1 [.int .i64 y1, .int .i64 y2] rfl rfl (World.news_of_block (cs := #[.int .i64 y1, .int .i64 y2]) (t := 42) (fr := (0, 0)) (new2 wr _ _)) ?c2 ?c3 ?c4 ?c5 ?_)
        case c2 => simp [Value.oneCell']
        case c3 => unfold maxLen; omega
        case c4 => omega
        case c5 => have := hg.size; simp; omega
        intro v' w1 hown' hgrow _
        have ho2 : w1.ownsRow w.heap.size 42 2 v' (k + 1) (flat (L.take (k + 1))) := by rw [take_snoc HY.out]; exact hown'
        have hg1 : Gr w w1 := ((hg.al _).al _).gb hgrow (fun q hq => (hown.lt q hq).1)
        clear hown' hgrow
        go_wp2_with fail
        go_roundw
        case rel => exact ⟨k + 1, by omega, by go_num, ho2, hg1⟩
        case measure => simp [intOf]; omega
    · obtain rfl : k = n := by omega
      obtain ⟨B, m, hvB, hmB⟩ := own_mem hLl.out hLb.out (by have := hown; rwa [List.take_of_length_le (by have := hLl.out; omega)] at this)
      clear hm hown
      subst hvB
      go_wp2_with fail
      go_ret
      exact ⟨B, m, rfl, hmB, hg⟩

/-- A new memory l, and a number. -/
def GotRowT (w : World) (n : Nat) (l : List (Int × Int)) (t : Value) (e : Ending) (w' : World) : Prop :=
  ∃ B m, e = .returned (.tuple #[.slice B n m, t]) ∧ Mem w' B n l ∧ Gr w w'
theorem drN_mem {k : Nat} (hm : Mem w A n l) : Mem (w.drewN k) A n l := hm.gr ((Gr.refl w).drN k)
set_option maxHeartbeats 1000000 in
theorem rAdd2_ok {i : Nat} {x : Int × Int} {d : Int} (h64 : n ≤ 64) (hr : rightB l = true) (hx : l[i]? = some x) (hm : Mem w A n l) :
    Calls Try.prog 16 #[.slice A n c, .int .i64 i, .int .i64 d] w (GotRowT w n (l.set i (x.1, wd x.1 (wrap64 (x.2 + d)))) (.int .i64 (wd x.1 (wrap64 (x.2 + d))))) := by
  have hk := fit_kind (right_fit hr hx)
  have hi : i < n := by have := (List.getElem?_eq_some_iff.1 hx).1; have := hm.1; omega
  obtain ⟨b, off, y, rfl, hbl, hy, h1, h2, c0, c1⟩ := hm.at_ hi
  obtain rfl : x = y := by rw [hx] at hy; exact Option.some.inj hy
  have hi0 : (0 : Int) ≤ (i : Int) := by omega
  have hi1 : (i : Int) < (n : Int) := by omega
  have c2 := fun w => Lib.hid (rAdd_ok x.1 x.2 d w hk)
  have c3 := fun k => Lib.hid (show Calls Try.prog 18 #[.slice (some ⟨b, off, none⟩) n c, .int .i64 i, .int .i64 (wd x.1 (wrap64 (x.2 + d)))] (w.drewN k) (GotRow (w.drewN k) n (l.set i (x.1, wd x.1 (wrap64 (x.2 + d))))) from by
    have h := rStore_ok (c := c) h64 hr hx (wd_b x.1 _ (wrap64_b (x.2 + d))) (drN_mem (k := k) hm)
    rwa [wd_idem] at h)
  obtain ⟨s, hs⟩ : ∃ s, wd x.1 (wrap64 (x.2 + d)) = s := ⟨_, rfl⟩
  simp only [hs] at c2 c3
  rw [hs]
  clear hs hr hx hy hm hk
  obtain ⟨x1, x2⟩ := x
  go_enter Try.func16, Try.ntmps16
  go_wp2_with fail
  go_quiet ((go_at_call 31; exact Calls.quiet_of_same (c2 _).out))
  go_wp2_with fail
  refine (c3 _).out.mono ?_
  rintro e w1 ⟨B, m, rfl, hmB, b1⟩
  go_wp2_with fail
  go_ret2
  exact ⟨B, m, rfl, hmB, ((Gr.refl w).drN _).trans b1⟩
set_option maxHeartbeats 1000000 in
theorem rCas_hit {i : Nat} {x : Int × Int} {old v : Int} (h64 : n ≤ 64) (hr : rightB l = true) (hx : l[i]? = some x) (hv : Inb v) (hm : Mem w A n l) (hh : wd x.1 old = x.2) :
    Calls Try.prog 17 #[.slice A n c, .int .i64 i, .int .i64 old, .int .i64 v] w (GotRowT w n (l.set i (x.1, wd x.1 v)) (.bool true)) := by
  have hk := fit_kind (right_fit hr hx)
  have hi : i < n := by have := (List.getElem?_eq_some_iff.1 hx).1; have := hm.1; omega
  obtain ⟨b, off, y, rfl, hbl, hy, h1, h2, c0, c1⟩ := hm.at_ hi
  obtain rfl : x = y := by rw [hx] at hy; exact Option.some.inj hy
  have hi0 : (0 : Int) ≤ (i : Int) := by omega
  have hi1 : (i : Int) < (n : Int) := by omega
  have c2 := fun w => Lib.hid (hh ▸ rWrap_ok x.1 old w hk)
  have c3 := fun k => Lib.hid (rStore_ok (c := c) h64 hr hx hv (drN_mem (k := k) hm))
  clear hr hx hy hm hk hh
  obtain ⟨x1, x2⟩ := x
  go_enter Try.func17, Try.ntmps17
  go_wp2_with fail
  go_quiet ((go_at_call 32; exact Calls.quiet_of_same (c2 _).out))
  go_wp2_with fail
  refine (c3 _).out.mono ?_
  rintro e w1 ⟨B, m, rfl, hmB, b1⟩
  go_wp2_with fail
  go_ret2
  exact ⟨B, m, rfl, hmB, ((Gr.refl w).drN _).trans b1⟩
set_option maxHeartbeats 1000000 in
theorem rCas_miss {i : Nat} {x : Int × Int} {old v : Int} (hr : rightB l = true) (hx : l[i]? = some x) (hm : Mem w A n l) (hh : wd x.1 old ≠ x.2) :
    Calls Try.prog 17 #[.slice A n c, .int .i64 i, .int .i64 old, .int .i64 v] w (GotRowT w n l (.bool false)) := by
  have hk := fit_kind (right_fit hr hx)
  have hi : i < n := by have := (List.getElem?_eq_some_iff.1 hx).1; have := hm.1; omega
  obtain ⟨b, off, y, rfl, hbl, hy, h1, h2, c0, c1⟩ := hm.at_ hi
  obtain rfl : x = y := by rw [hx] at hy; exact Option.some.inj hy
  have hi0 : (0 : Int) ≤ (i : Int) := by omega
  have hi1 : (i : Int) < (n : Int) := by omega
  have c2 := fun w => Lib.hid (rWrap_ok x.1 old w hk)
  have hz : (x.2 == wd x.1 old) = false := beq_eq_false_iff_ne.2 (Ne.symm hh)
  have hz' : (x.2 != wd x.1 old) = true := by simp [bne, hz]
  generalize wd x.1 old = O at *
  have HM := Lib.hid hm
  clear hr hx hy hm hk hh
  obtain ⟨x1, x2⟩ := x
  go_enter Try.func17, Try.ntmps17
  go_wp2_with fail
  go_quiet ((go_at_call 32; exact Calls.quiet_of_same (c2 _).out))
  go_wp2_with fail
  go_ret2
  exact ⟨_, _, rfl, drN_mem HM.out, (Gr.refl w).drN _⟩
end
end Go.Proofs.Ytcfgkldlhlnniaa
