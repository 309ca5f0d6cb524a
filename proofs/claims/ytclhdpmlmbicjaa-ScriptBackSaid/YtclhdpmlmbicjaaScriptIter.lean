/-
  Package script: the numbers that are read one by one: for every loop body.
-/
import Derived.Test.YtclhdpmlmbicjaaScript
namespace Go.Proofs.Ytclhdpmlmbicjaa
open Go.ChangeShapes Go.WideShapes Go.ChangeAt Go.RowKit Go.Shelf
set_option linter.unusedVariables false
set_option linter.unusedSimpArgs false
namespace P13

set_option maxHeartbeats 1000000 in
theorem picks_is (A : Option Addr) (n c : Nat) (w : World) :
    Calls Try.prog 19 #[.slice A n c] w fun e w' =>
      e = .returned (.func (.func 23) #[] #[.pointer (some ⟨w.heap.size, 0, none⟩)]) ∧ w' = w.alloc (.cells #[.slice A n c] 24) := by
  have hmf : ∀ W, (Instr.makeFunc (.func 23) #[] #[.pointer (some ⟨w.heap.size, 0, none⟩)]).run Try.prog W = .ok (.func (.func 23) #[] #[.pointer (some ⟨w.heap.size, 0, none⟩)]) W := fun W => by rfl
  go_enter Try.func19, Try.ntmps19
  go_wp2_with fail
  go_ret
  exact ⟨rfl, rfl⟩
theorem abides_gr {β : Type} {B : Nat} {J : β → World → Prop} (h : AbidesFrom B J) {s : β} {X Y : World} (hs : J s X) (g : Gr X Y) : J s Y :=
  h s X Y none hs ⟨g.os, g.tape, g.output, g.size, fun k hk _ => g.block k hk⟩ (fun r e => by cases e)
set_option maxRecDepth 100000 in
set_option maxHeartbeats 4000000 in
theorem picks1_in (w0 : World) {A : Option Addr} {n c : Nat} {L : List Int} (hm : IMem w0 A n L) (hn : n ≤ 9223372036854775807)
    (m : Nat) (hm1 : 1 ≤ m) (l lb : Nat) (J Jx : List Int → World → Prop) (W : World) (hW : Gr w0 W) (hJ : AbidesFrom W.heap.size J)
    (hY : ∀ pre x W1, J pre W1 → pre.length < L.length → YieldAt Fence.wide (m - 1) Try.prog l #[pk (rd x)] W1 fun e W' =>
      (e = .returned (.bool true) ∧ J (pre ++ [x]) W' ∧ Below w0.heap.size W1 W') ∨ (e = .returned (.bool false) ∧ Jx (pre ++ [x]) W'))
    (hL : Blk W lb #[.slice A n c] 24) (h0 : J [] W) :
    CallsIn Fence.wide m Try.prog 23 #[.func (.yield l) #[] #[], .pointer (some ⟨lb, 0, none⟩)] W fun e W' => (∃ v, e = .returned v) ∧
      ((∃ ys, ys = L ∧ J ys W') ∨ (∃ pre, pre <+: L ∧ Jx pre W')) := by
  have hlen := hm.1
  have l0 := (hL.at_ (k := 0) rfl).1
  have ll := hL.lt
  have HJ := Lib.hid hJ
  have HY := Lib.hid hY
  have HM := Lib.hid hm
  have H0 := Lib.hid h0
  clear hJ hY hm hL h0
  refine callsIn_of_wp Try.func23 rfl trivial ?_ rfl
  simp only [Try.ntmps23, List.size_toArray, List.length_cons, List.length_nil, Nat.reduceAdd, Nat.reduceSub, Array.replicate_succ, Array.replicate_zero, List.push_toArray, List.append_toArray, List.nil_append, List.cons_append]
  gi_wp2_with fail
  have HG := Lib.hid hW
  clear l0 ll
  gi_loopw [7] (fun i wr => ∃ k : Nat, k ≤ n ∧ i = .int .i64 (k : Int) ∧ Hid (Below w0.heap.size w0 wr) ∧ Hid (J (L.take k) wr)) (fun i _ => n - (intOf i).toNat)
  case atStart => exact ⟨0, Nat.zero_le _, rfl, HG, H0⟩
  case round =>
    clear HG H0
    obtain ⟨k, hk, rfl, HG, HJK⟩ := hrel
    by_cases hlt : k < n
    · obtain ⟨b, off, x, rfl, hbl, hx, hxb, d0⟩ := (HM.out.gr HG.out).at_ hlt
      have k0 : (0 : Int) ≤ (k : Int) := by omega
      have k1 : (k : Int) < (n : Int) := by omega
      have HX := Lib.hid hx
      have CR := fun W => Lib.hid (Read_is x W)
      clear hx hxb
      gi_wp2_with fail
      refine ⟨trivial, ?_⟩
      with_reducible refine (callsIn_wide.2 (CR _).out).mono ?_
      rintro e w1 ⟨rfl, hb1⟩
      have hj1 := abides_gr HJ.out HJK.out hb1
      obtain ⟨fn, tmps, assign, body, hyy, hR⟩ := HY.out (L.take k) x _ hj1 (by have := (List.getElem?_eq_some_iff.1 HX.out).1; rw [List.length_take]; omega)
      have HRR := Lib.hid hR
      have HG1 := Lib.hid (HG.out.trans (Below.mono hb1 HG.out.size))
      clear hj1 hR hb1 CR
      gi_wp2_with fail
      refine HRR.out.mono ?_
      rintro e W3 (⟨rfl, hJ3, hk3⟩ | ⟨rfl, hJx3⟩)
      · have HG3 := Lib.hid (HG1.out.trans hk3)
        have HJ3 := Lib.hid (show J (L.take (k + 1)) W3 from by rw [take_snoc HX.out]; exact hJ3)
        clear hJ3 hk3 hyy HRR
        gi_wp2_with fail
        go_roundw
        case rel => exact ⟨k + 1, by omega, by go_num, HG3, HJ3⟩
        case measure => simp [intOf]; omega
      · have HJX := Lib.hid hJx3
        clear hJx3 hyy HRR
        gi_wp2_with fail
        refine bodyPost_ret (results_none rfl _ _ _) rfl ?_
        exact ⟨⟨_, rfl⟩, .inr ⟨_, by rw [← take_snoc HX.out]; exact List.take_prefix _ _, HJX.out⟩⟩
    · obtain rfl : k = n := by omega
      gi_wp2_with fail
      go_end0
      exact ⟨⟨_, rfl⟩, .inl ⟨_, by rw [← hlen, List.take_length], HJK.out⟩⟩
theorem picks_stops {w0 : World} {A : Option Addr} {n c : Nat} {L : List Int} (hm : IMem w0 A n L) (hn : n ≤ 9223372036854775807) (m : Nat) (hm1 : 1 ≤ m) (lb : Nat) (W : World) (hW : Gr w0 W) (hL : Blk W lb #[.slice A n c] 24) :
    SeqStopsK Fence.wide m Try.prog 23 #[.pointer (some ⟨lb, 0, none⟩)] (fun x : Int => #[pk (rd x)]) (Below w0.heap.size) (fun ys => ys = L) (fun pre => pre <+: L) L.length W := fun l J Jx W' hW' hJ _ hY h0 =>
  picks1_in w0 hm hn m hm1 l lb J Jx W' (hW.trans hW') hJ hY (hL.gr hW') h0
end P13
end Go.Proofs.Ytclhdpmlmbicjaa
