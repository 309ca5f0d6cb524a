/-
  Package line: join, Place, Drop, Pop, Push.
-/
import Derived.Test.YtchfdgoogfidlaaLine
namespace Go.Proofs.Ytchfdgoogfidlaa
open Go.ChangeShapes Go.WideShapes Go.ChangeAt Go.RowKit
set_option linter.unusedVariables false

section
variable {w : World} {A : Option Addr} {n c : Nat} {l : List Int}
set_option maxHeartbeats 2000000 in
theorem join_two {g : Nat} {B : Option Addr} {m d : Nat} {r : List Int} (hg0 : w.cell? ⟨g, 0, none⟩ = some (.slice A n c)) (hg1 : w.cell? ⟨g, 1, none⟩ = some (.slice B m d))
    (hA : IMem w A n l) (hB : IMem w B m r) (hn : n ≤ 1000000) (hm : m ≤ 1000000) :
    Calls Try.prog 19 #[.slice (some ⟨g, 0, none⟩) 2 2] w fun e w' => ∃ C k, e = .returned (.slice C (n + m) k) ∧ IOwn w.heap.size w' C (n + m) k (l ++ r) ∧ Gr w w' := by
  obtain ⟨i0, hi0, hz0, hz1, hz2⟩ := info_parts infoInt
  have HZ := Lib.hid hz0
  have HZ1 := Lib.hid hz1
  have HZ2 := Lib.hid hz2
  have HI0 := Lib.hid hi0
  have HA := Lib.hid hA
  have HB := Lib.hid hB
  have hlt := World.block_lt_of_cell? w _ hg0
  have hlt' : g < w.heap.size := hlt
  clear hz0 hz1 hz2 hi0 hA hB hlt
  go_enter Try.func19, Try.ntmps19
  go_wp2_with fail
  go_loopw [3, 8] (fun L i wr => Hid (Gr w wr) ∧ ((i = .int .i64 0 ∧ ∃ C k, L = .slice C 0 k ∧ Hid (IOwn w.heap.size wr C 0 k [])) ∨ (i = .int .i64 1 ∧ ∃ C k, L = .slice C n k ∧ Hid (IOwn w.heap.size wr C n k l)) ∨ (i = .int .i64 2 ∧ ∃ C k, L = .slice C (n + m) k ∧ Hid (IOwn w.heap.size wr C (n + m) k (l ++ r))))) (fun _ i _ => 2 - (intOf i).toNat)
  case atStart => exact ⟨Lib.hid (Gr.refl w), .inl ⟨rfl, none, 0, rfl, Lib.hid OMem.nil_⟩⟩
  case round =>
    obtain ⟨HG, h⟩ := hrel
    rcases h with ⟨rfl, C, k, rfl, HL⟩ | ⟨rfl, C, k, rfl, HL⟩ | ⟨rfl, C, k, rfl, HL⟩
    · have q0 := (HG.out.cell (p := ⟨g, 0, none⟩) hlt').trans hg0
      go_wp2_with (at_builtin; refine Mark.stop ?_)
      refine Mark.go ?_
      refine wpList_append_omem _ (Value.int .i64) B64 rfl (.tmp 12) (.tmp 13) 22 rfl (fun _ => rfl) w.heap.size 3 i0 (.int .i64 0) 8 Try.underlying22 HI0.out HZ.out HZ1.out HZ2.out rfl C 0 k [] rfl HL.out A n c l rfl (HA.out.gr HG.out) (by unfold maxLen; omega) (by omega) HG.out.size ?_
      intro C2 k2 w2 own2 gb2
      simp only [Nat.zero_add, List.nil_append] at own2
      have G2 := Lib.hid (HG.out.gb gb2 (fun k hk => (HL.out.lt k hk).1))
      simp only [Nat.zero_add]
      go_wp2_with fail
      go_roundw
      case rel => exact ⟨G2, .inr (.inl ⟨rfl, C2, k2, rfl, Lib.hid own2⟩)⟩
      case measure => simp [intOf]
    · have q0 := (HG.out.cell (p := ⟨g, 1, none⟩) hlt').trans hg1
      go_wp2_with (at_builtin; refine Mark.stop ?_)
      refine Mark.go ?_
      refine wpList_append_omem _ (Value.int .i64) B64 rfl (.tmp 12) (.tmp 13) 22 rfl (fun _ => rfl) w.heap.size 3 i0 (.int .i64 0) 8 Try.underlying22 HI0.out HZ.out HZ1.out HZ2.out rfl C n k l rfl HL.out B m d r rfl (HB.out.gr HG.out) (by unfold maxLen; omega) (by omega) HG.out.size ?_
      intro C2 k2 w2 own2 gb2
      have G2 := Lib.hid (HG.out.gb gb2 (fun k hk => (HL.out.lt k hk).1))
      go_wp2_with fail
      go_roundw
      case rel => exact ⟨G2, .inr (.inr ⟨rfl, C2, k2, rfl, Lib.hid own2⟩)⟩
      case measure => simp [intOf]
    · go_wp2_with fail
      go_ret
      exact ⟨C, k, rfl, HL.out, HG.out⟩
set_option maxHeartbeats 2000000 in
theorem Place_is (hm : IMem w A n l) (hc : n ≤ c) (hn : n ≤ 9223372036854775807) {who r e : Int} (h : PlaceR l who r e) :
    Calls Try.prog 11 #[.slice A n c, .int .i64 who] w fun en w' => en = .returned (.tuple #[.int .i64 r, .int .i64 e]) ∧ w' = w := by
  rcases h with ⟨h, rfl, rfl⟩ | ⟨h0, hl, hx, rfl, rfl⟩ | ⟨h0, hl, ⟨a, b, hab, rfl⟩, rfl⟩
  · by_cases h0 : who < 0
    · clear h
      go_enter Try.func11, Try.ntmps11
      go_wp2_with fail
      go_ret2
      exact ⟨rfl, rfl⟩
    · have k1 := Lib.hid (Right_is (v := false) hm hc hn (by simpa using h.resolve_left h0))
      clear h hm
      go_enter Try.func11, Try.ntmps11
      go_wp2_with fail
      refine k1.out.mono ?_
      rintro e w1 ⟨rfl, rfl⟩
      go_wp2_with fail
      go_ret2
      exact ⟨rfl, rfl⟩
  · have k1 := Lib.hid (Right_is (v := true) hm hc hn (by simpa using hl))
    have k2 := Lib.hid (Index_no (c := c) hm hn hx)
    have h1 : ¬ who < 0 := by omega
    clear hl hx hm
    go_enter Try.func11, Try.ntmps11
    go_wp2_with fail
    refine k1.out.mono ?_
    rintro e w1 ⟨rfl, rfl⟩
    go_wp2_with fail
    refine k2.out.mono ?_
    rintro e w1 ⟨rfl, rfl⟩
    go_wp2_with fail
    go_ret2
    exact ⟨rfl, rfl⟩
  · have k1 := Lib.hid (Right_is (v := true) hm hc hn (by simpa using hl))
    obtain ⟨p1, p2⟩ := at_of hab hl.2
    have k2 := Lib.hid (Index_at (c := c) hm hn p1 p2)
    have h1 : ¬ who < 0 := by omega
    generalize a.length = p at *
    clear hl p1 p2 hab hm
    have h2 : ¬ (p : Int) < 0 := by omega
    go_enter Try.func11, Try.ntmps11
    go_wp2_with fail
    refine k1.out.mono ?_
    rintro e w1 ⟨rfl, rfl⟩
    go_wp2_with fail
    refine k2.out.mono ?_
    rintro e w1 ⟨rfl, rfl⟩
    go_wp2_with fail
    go_ret2
    exact ⟨rfl, rfl⟩
end
end Go.Proofs.Ytchfdgoogfidlaa
