/-
  Package line: Drop, Pop, Push.
-/
import Derived.Test.YtchfdgoogfidlaaLineFn
namespace Go.Proofs.Ytchfdgoogfidlaa
open Go.ChangeShapes Go.WideShapes Go.ChangeAt Go.RowKit
set_option linter.unusedVariables false

section
variable {w : World} {A : Option Addr} {n c : Nat} {l : List Int}
set_option maxHeartbeats 2000000 in
theorem Drop_is (hm : IMem w A n l) (hc : n ≤ c) (hn : n ≤ 9223372036854775807) {who : Int} {r : List Int} {e : Int} (h : DropR l who r e) :
    Calls Try.prog 10 #[.slice A n c, .int .i64 who] w fun en w' => ∃ C k, en = .returned (.tuple #[.slice C r.length k, .int .i64 e]) ∧ IOwn w.heap.size w' C r.length k r ∧ Gr w w' := by
  rcases h with ⟨h, rfl, rfl⟩ | ⟨h0, hl, hx, rfl, rfl⟩ | ⟨h0, hl, ⟨a, b, hab, rfl⟩, rfl⟩
  · have k1 := Lib.hid (Place_is hm hc hn (who := who) (.inl ⟨h, rfl, rfl⟩))
    clear h hm
    go_enter Try.func10, Try.ntmps10
    go_wp2_with fail
    refine k1.out.mono ?_
    rintro e w1 ⟨rfl, rfl⟩
    go_wp2_with fail
    go_ret2
    exact ⟨none, 0, rfl, OMem.nil_, Gr.refl _⟩
  · have k1 := Lib.hid (Place_is hm hc hn (who := who) (.inr (.inl ⟨h0, hl, hx, rfl, rfl⟩)))
    clear hl hx hm
    go_enter Try.func10, Try.ntmps10
    go_wp2_with fail
    refine k1.out.mono ?_
    rintro e w1 ⟨rfl, rfl⟩
    go_wp2_with fail
    go_ret2
    exact ⟨none, 0, rfl, OMem.nil_, Gr.refl _⟩
  · have k1 := Lib.hid (Place_is hm hc hn (who := who) (.inr (.inr ⟨h0, hl, ⟨a, b, hab, rfl⟩, rfl⟩)))
    have hlen : a.length + 1 + b.length = n := by rw [← hm.1, hab]; simp; omega
    have hn64 : n ≤ 64 := by rw [← hm.1]; exact hl.1
    obtain ⟨b0, off, rfl, hbl, hcs⟩ := hm.2.2 (by omega)
    have ma := Lib.hid (hm.take_ a.length (by omega))
    have mb := Lib.hid (hm.drop_ rfl (a.length + 1) (by omega))
    rw [show l.take a.length = a by rw [hab]; simp] at ma
    rw [show l.drop (a.length + 1) = b by rw [hab]; simp, show n - (a.length + 1) = b.length by omega] at mb
    clear hab hl hm hcs
    generalize hp : a.length = p at *
    generalize hq : b.length = q at *
    have z1 : (p : Int) ≤ (c : Int) := by omega
    have z2 : (0 : Int) ≤ (p : Int) := by omega
    obtain ⟨p1, hp1⟩ : ∃ p1, p1 = p + 1 := ⟨_, rfl⟩
    rw [← hp1] at mb
    have hw1 : IntKind.i64.wrap ((p : Int) + 1) = (p1 : Int) := by rw [wrap_id (by omega) (by omega)]; omega
    have z3 : (p1 : Int) ≤ (n : Int) := by omega
    have z4 : (n : Int) ≤ (c : Int) := by omega
    have z5 : (0 : Int) ≤ (p1 : Int) := by omega
    obtain ⟨A2, HA⟩ : ∃ A2 : Option Addr, (c = p1 ∧ A2 = some ⟨b0, off, none⟩) ∨ (¬ c = p1 ∧ A2 = some ⟨b0, off + p1, none⟩) := by
      by_cases h : c = p1
      · exact ⟨_, .inl ⟨h, rfl⟩⟩
      · exact ⟨_, .inr ⟨h, rfl⟩⟩
    obtain ⟨c2, HC⟩ : ∃ c2, c - p1 = c2 := ⟨_, rfl⟩
    have HQ : n - p1 = q := by omega
    have mb2 : IMem w A2 q b := by
      rcases HA with ⟨h, rfl⟩ | ⟨h, rfl⟩
      · obtain rfl : q = 0 := by omega
        obtain rfl : b = [] := List.eq_nil_of_length_eq_zero (by omega)
        exact EMem.nil_
      · exact mb.out
    have MB := Lib.hid mb2
    have p64 : p ≤ 64 := by omega
    have q64 : q ≤ 64 := by omega
    have gX : Gr w ((w.alloc (.cells #[.slice (some ⟨b0, off, none⟩) p c, .slice A2 q c2] 22)).drew) := ((Gr.refl w).al _).dr
    have kj := Lib.hid (join_two (w := (w.alloc (.cells #[.slice (some ⟨b0, off, none⟩) p c, .slice A2 q c2] 22)).drew) (g := w.heap.size) (A := some ⟨b0, off, none⟩) (n := p) (c := c) (l := a) (B := A2) (m := q) (d := c2) (r := b) (by simp) (by simp) (ma.out.gr gX) (MB.out.gr gX) (by omega) (by omega))
    have HL := Lib.hid (show (a ++ b).length = p + q by rw [List.length_append, hp, hq])
    generalize a ++ b = R at *
    clear mb2 hlen hn64 hp hq hp1 mb ma MB
    rcases HA with ⟨rfl, rfl⟩ | ⟨h, rfl⟩
    all_goals (
      go_enter Try.func10, Try.ntmps10
      go_wp2_with fail
      refine k1.out.mono ?_
      rintro e w1 ⟨rfl, rfl⟩
      go_wp2_with fail
      go_region_held3 (fun _ => True) (exact trivial) (first | (go_at_call 19; with_reducible refine kj.out.mono ?_; rintro ee w9 ⟨C, k, rfl, own9, hb9⟩))
      go_wp2_with fail
      go_ret2
      refine ⟨C, k, by rw [HL.out]; rfl, ?_, gX.trans hb9⟩
      rw [HL.out]
      exact own9.low gX.size)
set_option maxHeartbeats 2000000 in
theorem Pop_is (hm : IMem w A n l) (hc : n ≤ c) (hn : n ≤ 9223372036854775807) {r : List Int} {x e : Int} (h : PopR l r x e) :
    Calls Try.prog 9 #[.slice A n c] w fun en w' => ∃ C k, en = .returned (.tuple #[.slice C r.length k, .int .i64 x, .int .i64 e]) ∧ IOwn w.heap.size w' C r.length k r ∧ Gr w w' := by
  have hlen := hm.1
  rcases h with ⟨h, rfl, rfl, rfl⟩ | ⟨rfl, rfl, rfl, rfl⟩ | ⟨hl, rfl, rfl⟩
  · have h0 : ¬ n = 0 := by
      rintro rfl
      obtain rfl : l = [] := List.eq_nil_of_length_eq_zero hlen
      exact h Ln.nil
    obtain ⟨b0, off, y, rfl, hbl, hy, hiy, cy⟩ := hm.at_ (show 0 < n by omega)
    rw [Nat.add_zero] at cy
    have k1 := Lib.hid (Drop_is (c := c) hm hc hn (who := y) (.inl ⟨.inr h, rfl, rfl⟩))
    have t0 : ((n : Int) == 0) = false := beq_eq_false_iff_ne.2 (by omega)
    clear h hm hy hlen
    go_enter Try.func9, Try.ntmps9
    go_wp2_with fail
    refine k1.out.mono ?_
    rintro e w1 ⟨C, k, rfl, own1, hb1⟩
    go_wp2_with fail
    go_ret3
    exact ⟨none, 0, rfl, OMem.nil_, hb1⟩
  · obtain rfl : n = 0 := by simpa using hlen.symm
    clear hm
    go_enter Try.func9, Try.ntmps9
    go_wp2_with fail
    go_ret3
    exact ⟨none, 0, rfl, OMem.nil_, Gr.refl _⟩
  · have h0 : ¬ n = 0 := by rintro rfl; simp at hlen
    obtain ⟨b0, off, y, rfl, hbl, hy, hiy, cy⟩ := hm.at_ (show 0 < n by omega)
    obtain rfl : x = y := by simpa using hy
    rw [Nat.add_zero] at cy
    have k1 := Lib.hid (Drop_is (c := c) hm hc hn (who := x) (.inr (.inr ⟨(good_cons.1 hl.2).1, hl, ⟨[], r, rfl, rfl⟩, rfl⟩)))
    have t0 : ((n : Int) == 0) = false := beq_eq_false_iff_ne.2 (by omega)
    clear hl hm hy hlen
    simp only [List.nil_append] at k1
    go_enter Try.func9, Try.ntmps9
    go_wp2_with fail
    refine k1.out.mono ?_
    rintro e w1 ⟨C, k, rfl, own1, hb1⟩
    go_wp2_with fail
    go_ret3
    exact ⟨C, k, rfl, own1, hb1⟩
set_option maxHeartbeats 4000000 in
theorem Push_is (hm : IMem w A n l) (hc : n ≤ c) (hn : n ≤ 9223372036854775807) {who : Int} {first : Bool} (hw : B64 who) {r : List Int} {e : Int} (h : PushR l who first r e) :
    Calls Try.prog 8 #[.slice A n c, .int .i64 who, .bool first] w fun en w' => ∃ C k, en = .returned (.tuple #[.slice C r.length k, .int .i64 e]) ∧ IOwn w.heap.size w' C r.length k r ∧ Gr w w' := by
  have hlen := hm.1
  rcases h with ⟨h, rfl, rfl⟩ | ⟨h0, hl, hx, rfl, rfl⟩ | ⟨h0, hl, hx, h64, rfl, rfl⟩ | ⟨h0, hl, hx, h64, rfl, rfl⟩
  · have k1 := Lib.hid (Place_is hm hc hn (who := who) (.inl ⟨h, rfl, rfl⟩))
    clear h hm
    go_enter Try.func8, Try.ntmps8
    go_wp2_with fail
    refine k1.out.mono ?_
    rintro e w1 ⟨rfl, rfl⟩
    go_wp2_with fail
    go_ret2
    exact ⟨none, 0, rfl, OMem.nil_, Gr.refl _⟩
  · obtain ⟨a, b, hab⟩ := split_at hx
    have k1 := Lib.hid (Place_is hm hc hn (who := who) (.inr (.inr ⟨h0, hl, ⟨a, b, hab, rfl⟩, rfl⟩)))
    clear hm hab hx hl
    go_enter Try.func8, Try.ntmps8
    go_wp2_with fail
    refine k1.out.mono ?_
    rintro e w1 ⟨rfl, rfl⟩
    go_wp2_with fail
    go_ret2
    exact ⟨none, 0, rfl, OMem.nil_, Gr.refl _⟩
  · have k1 := Lib.hid (Place_is hm hc hn (who := who) (.inr (.inl ⟨h0, hl, hx, rfl, rfl⟩)))
    obtain rfl : n = 64 := by omega
    clear hm hx hl
    go_enter Try.func8, Try.ntmps8
    go_wp2_with fail
    refine k1.out.mono ?_
    rintro e w1 ⟨rfl, rfl⟩
    go_wp2_with fail
    go_ret2
    exact ⟨none, 0, rfl, OMem.nil_, Gr.refl _⟩
  · have k1 := Lib.hid (Place_is hm hc hn (who := who) (.inr (.inl ⟨h0, hl, hx, rfl, rfl⟩)))
    have t0 : ((n : Int) == 64) = false := beq_eq_false_iff_ne.2 (by omega)
    have n64 : n < 64 := by omega
    have one := emem_one (enc := Value.int .i64) w who hw 3
    have HM := Lib.hid hm
    cases first
    · have gX := ((Gr.refl w).al (.cells #[.int .i64 who] 3)).al (.cells #[.slice A n c, .slice (some ⟨w.heap.size, 0, none⟩) 1 1] 22)
      have g1 := (Gr.refl (w.alloc (.cells #[.int .i64 who] 3))).al (.cells #[.slice A n c, .slice (some ⟨w.heap.size, 0, none⟩) 1 1] 22)
      have kj := Lib.hid (join_two (w := (w.alloc (.cells #[.int .i64 who] 3)).alloc (.cells #[.slice A n c, .slice (some ⟨w.heap.size, 0, none⟩) 1 1] 22)) (g := w.heap.size + 1) (A := A) (n := n) (c := c) (l := l) (B := some ⟨w.heap.size, 0, none⟩) (m := 1) (d := 1) (r := [who]) (by simp) (by simp) (HM.out.gr gX) (one.gr g1) (by omega) (by omega))
      have HL := Lib.hid (show (l ++ [who]).length = n + 1 by simp [hlen])
      rw [if_neg (by decide)]
      generalize l ++ [who] = R at *
      clear hm hx hl one h64 hlen
      go_enter Try.func8, Try.ntmps8
      go_wp2_with fail
      refine k1.out.mono ?_
      rintro e w1 ⟨rfl, rfl⟩
      go_wp2_with fail
      refine kj.out.mono ?_
      rintro e w1 ⟨C, k, rfl, own1, hb1⟩
      go_wp2_with fail
      go_ret2
      refine ⟨C, k, by rw [HL.out]; rfl, ?_, gX.trans hb1⟩
      rw [HL.out]
      exact own1.low gX.size
    · have gX := ((Gr.refl w).al (.cells #[.int .i64 who] 3)).al (.cells #[.slice (some ⟨w.heap.size, 0, none⟩) 1 1, .slice A n c] 22)
      have g1 := (Gr.refl (w.alloc (.cells #[.int .i64 who] 3))).al (.cells #[.slice (some ⟨w.heap.size, 0, none⟩) 1 1, .slice A n c] 22)
      have kj := Lib.hid (join_two (w := (w.alloc (.cells #[.int .i64 who] 3)).alloc (.cells #[.slice (some ⟨w.heap.size, 0, none⟩) 1 1, .slice A n c] 22)) (g := w.heap.size + 1) (A := some ⟨w.heap.size, 0, none⟩) (n := 1) (c := 1) (l := [who]) (B := A) (m := n) (d := c) (r := l) (by simp) (by simp) (one.gr g1) (HM.out.gr gX) (by omega) (by omega))
      have HL := Lib.hid (show (who :: l).length = 1 + n by simp [hlen]; omega)
      rw [if_pos rfl]
      rw [show [who] ++ l = who :: l from rfl] at kj
      generalize who :: l = R at *
      clear hm hx hl one h64 hlen
      go_enter Try.func8, Try.ntmps8
      go_wp2_with fail
      refine k1.out.mono ?_
      rintro e w1 ⟨rfl, rfl⟩
      go_wp2_with fail
      refine kj.out.mono ?_
      rintro e w1 ⟨C, k, rfl, own1, hb1⟩
      go_wp2_with fail
      go_ret2
      refine ⟨C, k, by rw [HL.out]; rfl, ?_, gX.trans hb1⟩
      rw [HL.out]
      exact own1.low gX.size
end
end Go.Proofs.Ytchfdgoogfidlaa
