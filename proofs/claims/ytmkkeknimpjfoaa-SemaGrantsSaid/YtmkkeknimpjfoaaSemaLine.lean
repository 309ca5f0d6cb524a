/-
  What is taken of line beside RootLine: Place, Push, Drop, Pop, and the reference's Push (stage 7's walks, in the namespace L7).
-/
import Derived.Test.YtmkkeknimpjfoaaRootLine
import Derived.Deep.QuietTactic
namespace Go.Proofs.Ytmkkeknimpjfoaa.L7
open Go.ChangeShapes Go.WideShapes Go.ChangeAt Go.RowKit
set_option linter.unusedVariables false
set_option linter.unusedSimpArgs false

/-- What Place answers. -/
def PlaceR (l : List Int) (who r e : Int) : Prop :=
  ((who < 0 ∨ ¬ Ln l) ∧ r = 0 ∧ e = 1) ∨ (0 ≤ who ∧ Ln l ∧ who ∉ l ∧ r = 0 ∧ e = 4) ∨ (0 ≤ who ∧ Ln l ∧ (∃ a b, l = a ++ who :: b ∧ r = a.length) ∧ e = 0)
theorem PlaceR.any (l : List Int) (who : Int) : ∃ r e, PlaceR l who r e := by
  by_cases h : who < 0 ∨ ¬ Ln l
  · exact ⟨0, 1, .inl ⟨h, rfl, rfl⟩⟩
  · have h1 : 0 ≤ who := by omega
    have h2 : Ln l := Classical.byContradiction fun hn => h (.inr hn)
    by_cases hm : who ∈ l
    · obtain ⟨a, b, hl⟩ := split_at hm
      exact ⟨a.length, 0, .inr (.inr ⟨h1, h2, ⟨a, b, hl, rfl⟩, rfl⟩)⟩
    · exact ⟨0, 4, .inr (.inl ⟨h1, h2, hm, rfl, rfl⟩)⟩
/-- What Push answers. -/
def PushR (l : List Int) (who : Int) (first : Bool) (r : List Int) (e : Int) : Prop :=
  ((who < 0 ∨ ¬ Ln l) ∧ r = [] ∧ e = 1) ∨ (0 ≤ who ∧ Ln l ∧ who ∈ l ∧ r = [] ∧ e = 7) ∨ (0 ≤ who ∧ Ln l ∧ who ∉ l ∧ l.length = 64 ∧ r = [] ∧ e = 5) ∨
    (0 ≤ who ∧ Ln l ∧ who ∉ l ∧ l.length < 64 ∧ r = (if first = true then who :: l else l ++ [who]) ∧ e = 0)
theorem PushR.any (l : List Int) (who : Int) (first : Bool) : ∃ r e, PushR l who first r e := by
  by_cases h : who < 0 ∨ ¬ Ln l
  · exact ⟨[], 1, .inl ⟨h, rfl, rfl⟩⟩
  · have h1 : 0 ≤ who := by omega
    have h2 : Ln l := Classical.byContradiction fun hn => h (.inr hn)
    by_cases hm : who ∈ l
    · exact ⟨[], 7, .inr (.inl ⟨h1, h2, hm, rfl, rfl⟩)⟩
    · by_cases hl : l.length = 64
      · exact ⟨[], 5, .inr (.inr (.inl ⟨h1, h2, hm, hl, rfl, rfl⟩))⟩
      · exact ⟨_, 0, .inr (.inr (.inr ⟨h1, h2, hm, by have := h2.1; omega, rfl, rfl⟩))⟩
/-- What Drop answers. -/
def DropR (l : List Int) (who : Int) (r : List Int) (e : Int) : Prop :=
  ((who < 0 ∨ ¬ Ln l) ∧ r = [] ∧ e = 1) ∨ (0 ≤ who ∧ Ln l ∧ who ∉ l ∧ r = [] ∧ e = 4) ∨ (0 ≤ who ∧ Ln l ∧ (∃ a b, l = a ++ who :: b ∧ r = a ++ b) ∧ e = 0)
theorem DropR.any (l : List Int) (who : Int) : ∃ r e, DropR l who r e := by
  by_cases h : who < 0 ∨ ¬ Ln l
  · exact ⟨[], 1, .inl ⟨h, rfl, rfl⟩⟩
  · have h1 : 0 ≤ who := by omega
    have h2 : Ln l := Classical.byContradiction fun hn => h (.inr hn)
    by_cases hm : who ∈ l
    · obtain ⟨a, b, hl⟩ := split_at hm
      exact ⟨a ++ b, 0, .inr (.inr ⟨h1, h2, ⟨a, b, hl, rfl⟩, rfl⟩)⟩
    · exact ⟨[], 4, .inr (.inl ⟨h1, h2, hm, rfl, rfl⟩)⟩
/-- What Pop answers. -/
def PopR (l : List Int) (r : List Int) (x e : Int) : Prop :=
  (¬ Ln l ∧ r = [] ∧ x = 0 ∧ e = 1) ∨ (l = [] ∧ r = [] ∧ x = 0 ∧ e = 4) ∨ (Ln l ∧ l = x :: r ∧ e = 0)
theorem PopR.any (l : List Int) : ∃ r x e, PopR l r x e := by
  by_cases h : Ln l
  · cases l with
    | nil => exact ⟨[], 0, 4, .inr (.inl ⟨rfl, rfl, rfl, rfl⟩)⟩
    | cons x r => exact ⟨r, x, 0, .inr (.inr ⟨h, rfl, rfl⟩)⟩
  · exact ⟨[], 0, 1, .inl ⟨h, rfl, rfl, rfl⟩⟩
section
variable {w : World} {A : Option Addr} {n c : Nat} {l : List Int}
set_option maxHeartbeats 2000000 in
theorem Index_no (hm : IMem w A n l) (hn : n ≤ 9223372036854775807) {x : Int} (hx : x ∉ l) :
    Calls Try.prog 43 #[.slice A n c, .int .i64 x] w fun e w' => e = .returned (.int .i64 (-1)) ∧ w' = w := by
  have HX := Lib.hid hx
  have HM := Lib.hid hm
  clear hx hm
  go_enter Try.func43, Try.ntmps43
  go_wp2_with fail
  go_loop [8] (fun i => ∃ k : Nat, k ≤ n ∧ i = .int .i64 (k : Int)) (fun i => n - (intOf i).toNat)
  case atStart => exact ⟨0, by omega, rfl⟩
  case round =>
    obtain ⟨k, hk, rfl⟩ := hrel
    by_cases hlt : k < n
    · obtain ⟨b, off, y, rfl, hbl, hy, hiy, cy⟩ := HM.out.at_ hlt
      have ne : (x == y) = false := beq_eq_false_iff_ne.2 fun e => HX.out (e ▸ List.mem_of_getElem? hy)
      clear hy
      go_wp2_with fail
      go_round
      case rel => exact ⟨k + 1, by omega, by go_num⟩
      case measure => simp [intOf]; omega
    · obtain rfl : k = n := by omega
      go_wp2_with fail
      go_ret
      exact ⟨rfl, rfl⟩
set_option maxHeartbeats 2000000 in
theorem Index_at (hm : IMem w A n l) (hn : n ≤ 9223372036854775807) {x : Int} {p : Nat} (hp : l[p]? = some x) (hf : ∀ j, j < p → l[j]? ≠ some x) :
    Calls Try.prog 43 #[.slice A n c, .int .i64 x] w fun e w' => e = .returned (.int .i64 (p : Int)) ∧ w' = w := by
  have hpn : p < n := by rw [← hm.1]; exact (List.getElem?_eq_some_iff.1 hp).1
  have HP := Lib.hid hp
  have HF := Lib.hid hf
  have HM := Lib.hid hm
  clear hp hf hm
  go_enter Try.func43, Try.ntmps43
  go_wp2_with fail
  go_loop [8] (fun i => ∃ k : Nat, k ≤ p ∧ i = .int .i64 (k : Int)) (fun i => n - (intOf i).toNat)
  case atStart => exact ⟨0, by omega, rfl⟩
  case round =>
    obtain ⟨k, hk, rfl⟩ := hrel
    have hkn : k < n := by omega
    obtain ⟨b, off, y, rfl, hbl, hy, hiy, cy⟩ := HM.out.at_ hkn
    by_cases hlt : k < p
    · have ne : (x == y) = false := beq_eq_false_iff_ne.2 fun e => HF.out k hlt (e ▸ hy)
      clear hy
      go_wp2_with fail
      go_round
      case rel => exact ⟨k + 1, by omega, by go_num⟩
      case measure => simp [intOf]; omega
    · obtain rfl : k = p := by omega
      rw [HP.out] at hy
      cases hy
      go_wp2_with fail
      go_ret
      exact ⟨rfl, rfl⟩
end
section
variable {w : World} {A : Option Addr} {n c : Nat} {l : List Int}
set_option maxHeartbeats 2000000 in
theorem join_two {g : Nat} {B : Option Addr} {m d : Nat} {r : List Int} (hg0 : w.cell? ⟨g, 0, none⟩ = some (.slice A n c)) (hg1 : w.cell? ⟨g, 1, none⟩ = some (.slice B m d))
    (hA : IMem w A n l) (hB : IMem w B m r) (hn : n ≤ 1000000) (hm : m ≤ 1000000) :
    Calls Try.prog 50 #[.slice (some ⟨g, 0, none⟩) 2 2] w fun e w' => ∃ C k, e = .returned (.slice C (n + m) k) ∧ IOwn w.heap.size w' C (n + m) k (l ++ r) ∧ Gr w w' := by
  obtain ⟨i0, hi0, hz0, hz1, hz2⟩ := info_parts infoInt
  have HZ := Lib.hid hz0
  have HZ1 := Lib.hid hz1
  have HZ2 := Lib.hid hz2
  have HI0 := Lib.hid hi0
  have HA := Lib.hid hA
  have HB := Lib.hid hB
  have hlt := World.block_lt_of_cell? w _ hg0
  have hlt' : g < w.heap.size := hlt
  clear hz0 hz1 hz2 hi0 hA hB hlt
  go_enter Try.func50, Try.ntmps50
  go_wp2_with fail
  go_loopw [3, 8] (fun L i wr => Hid (Gr w wr) ∧ ((i = .int .i64 0 ∧ ∃ C k, L = .slice C 0 k ∧ Hid (IOwn w.heap.size wr C 0 k [])) ∨ (i = .int .i64 1 ∧ ∃ C k, L = .slice C n k ∧ Hid (IOwn w.heap.size wr C n k l)) ∨ (i = .int .i64 2 ∧ ∃ C k, L = .slice C (n + m) k ∧ Hid (IOwn w.heap.size wr C (n + m) k (l ++ r))))) (fun _ i _ => 2 - (intOf i).toNat)
  case atStart => exact ⟨Lib.hid (Gr.refl w), .inl ⟨rfl, none, 0, rfl, Lib.hid OMem.nil_⟩⟩
  case round =>
    obtain ⟨HG, h⟩ := hrel
    rcases h with ⟨rfl, C, k, rfl, HL⟩ | ⟨rfl, C, k, rfl, HL⟩ | ⟨rfl, C, k, rfl, HL⟩
    · have q0 := (HG.out.cell (p := ⟨g, 0, none⟩) hlt').trans hg0
      go_wp2_with (at_builtin; refine Mark.stop ?_)
      refine Mark.go ?_
      refine wpList_append_omem _ (Value.int .i64) B64 rfl (.tmp 12) (.tmp 13) 38 rfl (fun _ => rfl) w.heap.size 3 i0 (.int .i64 0) 8 Try.underlying38 HI0.out HZ.out HZ1.out HZ2.out rfl C 0 k [] rfl HL.out A n c l rfl (HA.out.gr HG.out) (by unfold maxLen; omega) (by omega) HG.out.size ?_
      intro C2 k2 w2 own2 gb2
      simp only [Nat.zero_add, List.nil_append] at own2
      have G2 := Lib.hid (HG.out.gb gb2 (fun k hk => (HL.out.lt k hk).1))
      simp only [Nat.zero_add]
      go_wp2_with fail
      go_roundw
      case rel => exact ⟨G2, .inr (.inl ⟨rfl, C2, k2, rfl, Lib.hid own2⟩)⟩
      case measure => simp [intOf]
    · have q0 := (HG.out.cell (p := ⟨g, 1, none⟩) hlt').trans hg1
      go_wp2_with (at_builtin; refine Mark.stop ?_)
      refine Mark.go ?_
      refine wpList_append_omem _ (Value.int .i64) B64 rfl (.tmp 12) (.tmp 13) 38 rfl (fun _ => rfl) w.heap.size 3 i0 (.int .i64 0) 8 Try.underlying38 HI0.out HZ.out HZ1.out HZ2.out rfl C n k l rfl HL.out B m d r rfl (HB.out.gr HG.out) (by unfold maxLen; omega) (by omega) HG.out.size ?_
      intro C2 k2 w2 own2 gb2
      have G2 := Lib.hid (HG.out.gb gb2 (fun k hk => (HL.out.lt k hk).1))
      go_wp2_with fail
      go_roundw
      case rel => exact ⟨G2, .inr (.inr ⟨rfl, C2, k2, rfl, Lib.hid own2⟩)⟩
      case measure => simp [intOf]
    · go_wp2_with fail
      go_ret
      exact ⟨C, k, rfl, HL.out, HG.out⟩
set_option maxHeartbeats 2000000 in
theorem Place_is (hm : IMem w A n l) (hc : n ≤ c) (hn : n ≤ 9223372036854775807) {who r e : Int} (h : PlaceR l who r e) :
    Calls Try.prog 27 #[.slice A n c, .int .i64 who] w fun en w' => en = .returned (.tuple #[.int .i64 r, .int .i64 e]) ∧ w' = w := by
  rcases h with ⟨h, rfl, rfl⟩ | ⟨h0, hl, hx, rfl, rfl⟩ | ⟨h0, hl, ⟨a, b, hab, rfl⟩, rfl⟩
  · by_cases h0 : who < 0
    · clear h
      go_enter Try.func27, Try.ntmps27
      go_wp2_with fail
      go_ret2
      exact ⟨rfl, rfl⟩
    · have k1 := Lib.hid (Right_is (v := false) hm hc hn (by simpa using h.resolve_left h0))
      clear h hm
      go_enter Try.func27, Try.ntmps27
      go_wp2_with fail
      refine k1.out.mono ?_
      rintro e w1 ⟨rfl, rfl⟩
      go_wp2_with fail
      go_ret2
      exact ⟨rfl, rfl⟩
  · have k1 := Lib.hid (Right_is (v := true) hm hc hn (by simpa using hl))
    have k2 := Lib.hid (Index_no (c := c) hm hn hx)
    have h1 : ¬ who < 0 := by omega
    clear hl hx hm
    go_enter Try.func27, Try.ntmps27
    go_wp2_with fail
    refine k1.out.mono ?_
    rintro e w1 ⟨rfl, rfl⟩
    go_wp2_with fail
    refine k2.out.mono ?_
    rintro e w1 ⟨rfl, rfl⟩
    go_wp2_with fail
    go_ret2
    exact ⟨rfl, rfl⟩
  · have k1 := Lib.hid (Right_is (v := true) hm hc hn (by simpa using hl))
    obtain ⟨p1, p2⟩ := at_of hab hl.2
    have k2 := Lib.hid (Index_at (c := c) hm hn p1 p2)
    have h1 : ¬ who < 0 := by omega
    generalize a.length = p at *
    clear hl p1 p2 hab hm
    have h2 : ¬ (p : Int) < 0 := by omega
    go_enter Try.func27, Try.ntmps27
    go_wp2_with fail
    refine k1.out.mono ?_
    rintro e w1 ⟨rfl, rfl⟩
    go_wp2_with fail
    refine k2.out.mono ?_
    rintro e w1 ⟨rfl, rfl⟩
    go_wp2_with fail
    go_ret2
    exact ⟨rfl, rfl⟩
end
section
variable {w : World} {A : Option Addr} {n c : Nat} {l : List Int}
set_option maxHeartbeats 2000000 in
theorem Drop_is (hm : IMem w A n l) (hc : n ≤ c) (hn : n ≤ 9223372036854775807) {who : Int} {r : List Int} {e : Int} (h : DropR l who r e) :
    Calls Try.prog 51 #[.slice A n c, .int .i64 who] w fun en w' => ∃ C k, en = .returned (.tuple #[.slice C r.length k, .int .i64 e]) ∧ IOwn w.heap.size w' C r.length k r ∧ Gr w w' := by
  rcases h with ⟨h, rfl, rfl⟩ | ⟨h0, hl, hx, rfl, rfl⟩ | ⟨h0, hl, ⟨a, b, hab, rfl⟩, rfl⟩
  · have k1 := Lib.hid (Place_is hm hc hn (who := who) (.inl ⟨h, rfl, rfl⟩))
    clear h hm
    go_enter Try.func51, Try.ntmps51
    go_wp2_with fail
    refine k1.out.mono ?_
    rintro e w1 ⟨rfl, rfl⟩
    go_wp2_with fail
    go_ret2
    exact ⟨none, 0, rfl, OMem.nil_, Gr.refl _⟩
  · have k1 := Lib.hid (Place_is hm hc hn (who := who) (.inr (.inl ⟨h0, hl, hx, rfl, rfl⟩)))
    clear hl hx hm
    go_enter Try.func51, Try.ntmps51
    go_wp2_with fail
    refine k1.out.mono ?_
    rintro e w1 ⟨rfl, rfl⟩
    go_wp2_with fail
    go_ret2
    exact ⟨none, 0, rfl, OMem.nil_, Gr.refl _⟩
  · have k1 := Lib.hid (Place_is hm hc hn (who := who) (.inr (.inr ⟨h0, hl, ⟨a, b, hab, rfl⟩, rfl⟩)))
    have hlen : a.length + 1 + b.length = n := by rw [← hm.1, hab]; simp; omega
    have hn64 : n ≤ 64 := by rw [← hm.1]; exact hl.1
    obtain ⟨b0, off, rfl, hbl, hcs⟩ := hm.2.2 (by omega)
    have ma := Lib.hid (hm.take_ a.length (by omega))
    have mb := Lib.hid (hm.drop_ rfl (a.length + 1) (by omega))
    rw [show l.take a.length = a by rw [hab]; simp] at ma
    rw [show l.drop (a.length + 1) = b by rw [hab]; simp, show n - (a.length + 1) = b.length by omega] at mb
    clear hab hl hm hcs
    generalize hp : a.length = p at *
    generalize hq : b.length = q at *
    have z1 : (p : Int) ≤ (c : Int) := by omega
    have z2 : (0 : Int) ≤ (p : Int) := by omega
    obtain ⟨p1, hp1⟩ : ∃ p1, p1 = p + 1 := ⟨_, rfl⟩
    rw [← hp1] at mb
    have hw1 : IntKind.i64.wrap ((p : Int) + 1) = (p1 : Int) := by rw [wrap_id (by omega) (by omega)]; omega
    have z3 : (p1 : Int) ≤ (n : Int) := by omega
    have z4 : (n : Int) ≤ (c : Int) := by omega
    have z5 : (0 : Int) ≤ (p1 : Int) := by omega
    obtain ⟨A2, HA⟩ : ∃ A2 : Option Addr, (c = p1 ∧ A2 = some ⟨b0, off, none⟩) ∨ (¬ c = p1 ∧ A2 = some ⟨b0, off + p1, none⟩) := by
      by_cases h : c = p1
      · exact ⟨_, .inl ⟨h, rfl⟩⟩
      · exact ⟨_, .inr ⟨h, rfl⟩⟩
    obtain ⟨c2, HC⟩ : ∃ c2, c - p1 = c2 := ⟨_, rfl⟩
    have HQ : n - p1 = q := by omega
    have mb2 : IMem w A2 q b := by
      rcases HA with ⟨h, rfl⟩ | ⟨h, rfl⟩
      · obtain rfl : q = 0 := by omega
        obtain rfl : b = [] := List.eq_nil_of_length_eq_zero (by omega)
        exact EMem.nil_
      · exact mb.out
    have MB := Lib.hid mb2
    have p64 : p ≤ 64 := by omega
    have q64 : q ≤ 64 := by omega
    have gX : Gr w ((w.alloc (.cells #[.slice (some ⟨b0, off, none⟩) p c, .slice A2 q c2] 38)).drew) := ((Gr.refl w).al _).dr
    have kj := Lib.hid (join_two (w := (w.alloc (.cells #[.slice (some ⟨b0, off, none⟩) p c, .slice A2 q c2] 38)).drew) (g := w.heap.size) (A := some ⟨b0, off, none⟩) (n := p) (c := c) (l := a) (B := A2) (m := q) (d := c2) (r := b) (by simp) (by simp) (ma.out.gr gX) (MB.out.gr gX) (by omega) (by omega))
    have HL := Lib.hid (show (a ++ b).length = p + q by rw [List.length_append, hp, hq])
    generalize a ++ b = R at *
    clear mb2 hlen hn64 hp hq hp1 mb ma MB
    rcases HA with ⟨rfl, rfl⟩ | ⟨h, rfl⟩
    all_goals (
      go_enter Try.func51, Try.ntmps51
      go_wp2_with fail
      refine k1.out.mono ?_
      rintro e w1 ⟨rfl, rfl⟩
      go_wp2_with fail
      go_region_held3 (fun _ => True) (exact trivial) (first | (go_at_call 50; with_reducible refine kj.out.mono ?_; rintro ee w9 ⟨C, k, rfl, own9, hb9⟩))
      go_wp2_with fail
      go_ret2
      refine ⟨C, k, by rw [HL.out]; rfl, ?_, gX.trans hb9⟩
      rw [HL.out]
      exact own9.low gX.size)
set_option maxHeartbeats 2000000 in
theorem Pop_is (hm : IMem w A n l) (hc : n ≤ c) (hn : n ≤ 9223372036854775807) {r : List Int} {x e : Int} (h : PopR l r x e) :
    Calls Try.prog 38 #[.slice A n c] w fun en w' => ∃ C k, en = .returned (.tuple #[.slice C r.length k, .int .i64 x, .int .i64 e]) ∧ IOwn w.heap.size w' C r.length k r ∧ Gr w w' := by
  have hlen := hm.1
  rcases h with ⟨h, rfl, rfl, rfl⟩ | ⟨rfl, rfl, rfl, rfl⟩ | ⟨hl, rfl, rfl⟩
  · have h0 : ¬ n = 0 := by
      rintro rfl
      obtain rfl : l = [] := List.eq_nil_of_length_eq_zero hlen
      exact h Ln.nil
    obtain ⟨b0, off, y, rfl, hbl, hy, hiy, cy⟩ := hm.at_ (show 0 < n by omega)
    rw [Nat.add_zero] at cy
    have k1 := Lib.hid (Drop_is (c := c) hm hc hn (who := y) (.inl ⟨.inr h, rfl, rfl⟩))
    have t0 : ((n : Int) == 0) = false := beq_eq_false_iff_ne.2 (by omega)
    clear h hm hy hlen
    go_enter Try.func38, Try.ntmps38
    go_wp2_with fail
    refine k1.out.mono ?_
    rintro e w1 ⟨C, k, rfl, own1, hb1⟩
    go_wp2_with fail
    go_ret3
    exact ⟨none, 0, rfl, OMem.nil_, hb1⟩
  · obtain rfl : n = 0 := by simpa using hlen.symm
    clear hm
    go_enter Try.func38, Try.ntmps38
    go_wp2_with fail
    go_ret3
    exact ⟨none, 0, rfl, OMem.nil_, Gr.refl _⟩
  · have h0 : ¬ n = 0 := by rintro rfl; simp at hlen
    obtain ⟨b0, off, y, rfl, hbl, hy, hiy, cy⟩ := hm.at_ (show 0 < n by omega)
    obtain rfl : x = y := by simpa using hy
    rw [Nat.add_zero] at cy
    have k1 := Lib.hid (Drop_is (c := c) hm hc hn (who := x) (.inr (.inr ⟨(good_cons.1 hl.2).1, hl, ⟨[], r, rfl, rfl⟩, rfl⟩)))
    have t0 : ((n : Int) == 0) = false := beq_eq_false_iff_ne.2 (by omega)
    clear hl hm hy hlen
    simp only [List.nil_append] at k1
    go_enter Try.func38, Try.ntmps38
    go_wp2_with fail
    refine k1.out.mono ?_
    rintro e w1 ⟨C, k, rfl, own1, hb1⟩
    go_wp2_with fail
    go_ret3
    exact ⟨C, k, rfl, own1, hb1⟩
set_option maxHeartbeats 4000000 in
theorem Push_is (hm : IMem w A n l) (hc : n ≤ c) (hn : n ≤ 9223372036854775807) {who : Int} {first : Bool} (hw : B64 who) {r : List Int} {e : Int} (h : PushR l who first r e) :
    Calls Try.prog 37 #[.slice A n c, .int .i64 who, .bool first] w fun en w' => ∃ C k, en = .returned (.tuple #[.slice C r.length k, .int .i64 e]) ∧ IOwn w.heap.size w' C r.length k r ∧ Gr w w' := by
  have hlen := hm.1
  rcases h with ⟨h, rfl, rfl⟩ | ⟨h0, hl, hx, rfl, rfl⟩ | ⟨h0, hl, hx, h64, rfl, rfl⟩ | ⟨h0, hl, hx, h64, rfl, rfl⟩
  · have k1 := Lib.hid (Place_is hm hc hn (who := who) (.inl ⟨h, rfl, rfl⟩))
    clear h hm
    go_enter Try.func37, Try.ntmps37
    go_wp2_with fail
    refine k1.out.mono ?_
    rintro e w1 ⟨rfl, rfl⟩
    go_wp2_with fail
    go_ret2
    exact ⟨none, 0, rfl, OMem.nil_, Gr.refl _⟩
  · obtain ⟨a, b, hab⟩ := split_at hx
    have k1 := Lib.hid (Place_is hm hc hn (who := who) (.inr (.inr ⟨h0, hl, ⟨a, b, hab, rfl⟩, rfl⟩)))
    clear hm hab hx hl
    go_enter Try.func37, Try.ntmps37
    go_wp2_with fail
    refine k1.out.mono ?_
    rintro e w1 ⟨rfl, rfl⟩
    go_wp2_with fail
    go_ret2
    exact ⟨none, 0, rfl, OMem.nil_, Gr.refl _⟩
  · have k1 := Lib.hid (Place_is hm hc hn (who := who) (.inr (.inl ⟨h0, hl, hx, rfl, rfl⟩)))
    obtain rfl : n = 64 := by omega
    clear hm hx hl
    go_enter Try.func37, Try.ntmps37
    go_wp2_with fail
    refine k1.out.mono ?_
    rintro e w1 ⟨rfl, rfl⟩
    go_wp2_with fail
    go_ret2
    exact ⟨none, 0, rfl, OMem.nil_, Gr.refl _⟩
  · have k1 := Lib.hid (Place_is hm hc hn (who := who) (.inr (.inl ⟨h0, hl, hx, rfl, rfl⟩)))
    have t0 : ((n : Int) == 64) = false := beq_eq_false_iff_ne.2 (by omega)
    have n64 : n < 64 := by omega
    have one := emem_one (enc := Value.int .i64) w who hw 3
    have HM := Lib.hid hm
    cases first
    · have gX := ((Gr.refl w).al (.cells #[.int .i64 who] 3)).al (.cells #[.slice A n c, .slice (some ⟨w.heap.size, 0, none⟩) 1 1] 38)
      have g1 := (Gr.refl (w.alloc (.cells #[.int .i64 who] 3))).al (.cells #[.slice A n c, .slice (some ⟨w.heap.size, 0, none⟩) 1 1] 38)
      have kj := Lib.hid (join_two (w := (w.alloc (.cells #[.int .i64 who] 3)).alloc (.cells #[.slice A n c, .slice (some ⟨w.heap.size, 0, none⟩) 1 1] 38)) (g := w.heap.size + 1) (A := A) (n := n) (c := c) (l := l) (B := some ⟨w.heap.size, 0, none⟩) (m := 1) (d := 1) (r := [who]) (by simp) (by simp) (HM.out.gr gX) (one.gr g1) (by omega) (by omega))
      have HL := Lib.hid (show (l ++ [who]).length = n + 1 by simp [hlen])
      rw [if_neg (by decide)]
      generalize l ++ [who] = R at *
      clear hm hx hl one h64 hlen
      go_enter Try.func37, Try.ntmps37
      go_wp2_with fail
      refine k1.out.mono ?_
      rintro e w1 ⟨rfl, rfl⟩
      go_wp2_with fail
      refine kj.out.mono ?_
      rintro e w1 ⟨C, k, rfl, own1, hb1⟩
      go_wp2_with fail
      go_ret2
      refine ⟨C, k, by rw [HL.out]; rfl, ?_, gX.trans hb1⟩
      rw [HL.out]
      exact own1.low gX.size
    · have gX := ((Gr.refl w).al (.cells #[.int .i64 who] 3)).al (.cells #[.slice (some ⟨w.heap.size, 0, none⟩) 1 1, .slice A n c] 38)
      have g1 := (Gr.refl (w.alloc (.cells #[.int .i64 who] 3))).al (.cells #[.slice (some ⟨w.heap.size, 0, none⟩) 1 1, .slice A n c] 38)
      have kj := Lib.hid (join_two (w := (w.alloc (.cells #[.int .i64 who] 3)).alloc (.cells #[.slice (some ⟨w.heap.size, 0, none⟩) 1 1, .slice A n c] 38)) (g := w.heap.size + 1) (A := some ⟨w.heap.size, 0, none⟩) (n := 1) (c := 1) (l := [who]) (B := A) (m := n) (d := c) (r := l) (by simp) (by simp) (one.gr g1) (HM.out.gr gX) (by omega) (by omega))
      have HL := Lib.hid (show (who :: l).length = 1 + n by simp [hlen]; omega)
      rw [if_pos rfl]
      rw [show [who] ++ l = who :: l from rfl] at kj
      generalize who :: l = R at *
      clear hm hx hl one h64 hlen
      go_enter Try.func37, Try.ntmps37
      go_wp2_with fail
      refine k1.out.mono ?_
      rintro e w1 ⟨rfl, rfl⟩
      go_wp2_with fail
      refine kj.out.mono ?_
      rintro e w1 ⟨C, k, rfl, own1, hb1⟩
      go_wp2_with fail
      go_ret2
      refine ⟨C, k, by rw [HL.out]; rfl, ?_, gX.trans hb1⟩
      rw [HL.out]
      exact own1.low gX.size
end
section
variable {w : World} {A : Option Addr} {n c : Nat} {l : List Int}
set_option maxHeartbeats 2000000 in
theorem rPush_is (hm : IMem w A n l) (hn : n ≤ 1000000) {who : Int} (hw : B64 who) {first : Bool} {R : List Int} (hR : R = if first = true then who :: l else l ++ [who]) :
    Calls Try.prog 19 #[.slice A n c, .int .i64 who, .bool first] w fun e w' => ∃ C k, e = .returned (.slice C (n + 1) k) ∧ IOwn w.heap.size w' C (n + 1) k R ∧ Gr w w' := by
  obtain ⟨i0, hi0, hz0, hz1, hz2⟩ := info_parts infoInt
  have HZ := Lib.hid hz0
  have HZ1 := Lib.hid hz1
  have HZ2 := Lib.hid hz2
  have HI0 := Lib.hid hi0
  have HM := Lib.hid hm
  have HR := Lib.hid hR
  clear hz0 hz1 hz2 hi0 hm hR
  have o0 := omem_empty (enc := Value.int .i64) (ok := B64) w 3 (Nat.le_refl _)
  have g0 := (Gr.refl w).al (.cells #[] 3)
  cases first
  · go_enter Try.func19, Try.ntmps19
    go_wp2_with (at_builtin; refine Mark.stop ?_)
    refine Mark.go ?_
    refine wpList_append_omem _ (Value.int .i64) B64 rfl (.tmp 14) (.tmp 15) 38 rfl (fun _ => rfl) w.heap.size 3 i0 (.int .i64 0) 8 Try.underlying38 HI0.out HZ.out HZ1.out HZ2.out rfl _ 0 0 [] rfl o0 A n c l rfl (HM.out.gr g0) (by unfold maxLen; omega) (by omega) g0.size ?_
    intro C2 k2 w2 own2 gb2
    simp only [Nat.zero_add, List.nil_append] at own2
    have G2 := Lib.hid (g0.gb gb2 (fun k hk => (o0.lt k hk).1))
    simp only [Nat.zero_add]
    clear gb2
    go_wp2_with (at_builtin; refine Mark.stop ?_)
    refine Mark.go ?_
    refine wpList_append_omem _ (Value.int .i64) B64 rfl (.tmp 19) (.tmp 21) 38 rfl (fun _ => rfl) w.heap.size 3 i0 (.int .i64 0) 8 Try.underlying38 HI0.out HZ.out HZ1.out HZ2.out rfl C2 n k2 l rfl (own2.gr ((Gr.refl _).al _)) _ 1 1 [who] rfl (emem_one _ who hw _) (by unfold maxLen; omega) (by omega) (G2.out.al _).size ?_
    intro C3 k3 w3 own3 gb3
    have G3 := Lib.hid ((G2.out.al (.cells #[.int .i64 who] 3)).gb gb3 (fun k hk => (own2.lt k hk).1))
    clear gb3
    go_wp2_with fail
    go_ret
    exact ⟨C3, k3, rfl, HR.out ▸ own3, G3.out⟩
  · go_enter Try.func19, Try.ntmps19
    go_wp2_with (at_builtin; refine Mark.stop ?_)
    refine Mark.go ?_
    refine wpList_append_omem _ (Value.int .i64) B64 rfl (.tmp 10) (.tmp 12) 38 rfl (fun _ => rfl) w.heap.size 3 i0 (.int .i64 0) 8 Try.underlying38 HI0.out HZ.out HZ1.out HZ2.out rfl _ 0 0 [] rfl (o0.gr ((Gr.refl _).al _)) _ 1 1 [who] rfl (emem_one' _ who hw _ (by simp)) (by unfold maxLen; omega) (by omega) (g0.al _).size ?_
    intro C2 k2 w2 own2 gb2
    simp only [Nat.zero_add, List.nil_append] at own2
    have G2 := Lib.hid ((g0.al (.cells #[.int .i64 who] 3)).gb gb2 (fun k hk => (o0.lt k hk).1))
    simp only [Nat.zero_add]
    clear gb2
    go_wp2_with (at_builtin; refine Mark.stop ?_)
    refine Mark.go ?_
    refine wpList_append_omem _ (Value.int .i64) B64 rfl (.tmp 14) (.tmp 15) 38 rfl (fun _ => rfl) w.heap.size 3 i0 (.int .i64 0) 8 Try.underlying38 HI0.out HZ.out HZ1.out HZ2.out rfl C2 1 k2 [who] rfl own2 A n c l rfl (HM.out.gr G2.out) (by unfold maxLen; omega) (by omega) G2.out.size ?_
    intro C3 k3 w3 own3 gb3
    have G3 := Lib.hid (G2.out.gb gb3 (fun k hk => (own2.lt k hk).1))
    clear gb3
    have e1 : 1 + n = n + 1 := by omega
    rw [e1] at own3 ⊢
    go_wp2_with fail
    go_ret
    exact ⟨C3, k3, rfl, HR.out ▸ own3, G3.out⟩
end
end Go.Proofs.Ytmkkeknimpjfoaa.L7
