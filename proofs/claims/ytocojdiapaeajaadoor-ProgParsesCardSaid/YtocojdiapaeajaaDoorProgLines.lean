/-
  strings.Lines: the function that it hands back gives the lines, each with its end, one after the other, and stores what is left of the text.
-/
import Derived.Test.YtocojdiapaeajaaDoorProgSelf
import Derived.Test.YtocojdiapaeajaaDoorProgLib
import Derived.Test.YtocojdiapaeajaaDoorProgMore
namespace Go.Proofs.YtocojdiapaeajaaDoor
open Go.ChangeShapes Go.WideShapes Go.ChangeAt Go.RowKit Go.Shelf
set_option linter.unusedVariables false
set_option linter.unusedSimpArgs false
set_option maxRecDepth 100000
namespace P12

/-- The lines that a text gives, each with its end. -/
def raws (s : Bs) : List Bs := if h : s = [] then [] else (nxt s).1 :: raws (nxt s).2
termination_by s.length
decreasing_by exact (nxt_shorter h).1
theorem raws_nil : raws [] = [] := by rw [raws]; simp
theorem raws_step {s : Bs} (h : s ≠ []) : raws s = (nxt s).1 :: raws (nxt s).2 := by rw [raws, dif_neg h]
theorem raws_lns (s : Bs) : (raws s).map (fun x => Lib.trimSuffix x [10]) = lns [] s := by
  induction hn : s.length using Nat.strongRecOn generalizing s with
  | ind k ih =>
    by_cases h : s = []
    · subst h; rw [raws_nil]; simp [lns]
    · rw [raws_step h, lns_nxt h, List.map_cons, ih _ (by rw [← hn]; exact (nxt_shorter h).1) _ rfl]
theorem raws_len (s : Bs) : ∀ x ∈ raws s, x.length ≤ s.length := by
  induction hn : s.length using Nat.strongRecOn generalizing s with
  | ind k ih =>
    by_cases h : s = []
    · subst h; rw [raws_nil]; simp
    · rw [raws_step h]
      have h2 := nxt_shorter h
      intro x hx
      rcases List.mem_cons.1 hx with rfl | hx
      · rw [← hn]; exact h2.2
      · have := ih _ (by rw [← hn]; exact h2.1) _ rfl x hx
        omega

/-- What a round that goes on keeps: all that was old, and the block of what is left. -/
structure KpS (B sb : Nat) (X Y : World) : Prop where
  below : Below B X Y
  box : ∀ (cs : Array Value) (t : TypeId), Blk X sb cs t → Blk Y sb cs t
theorem KpS.refl (B sb : Nat) (X : World) : KpS B sb X X := ⟨Below.refl _ _, fun _ _ h => h⟩
theorem KpS.t {B sb : Nat} {X Y Z : World} (h : KpS B sb X Y) (k : KpS B sb Y Z) : KpS B sb X Z := ⟨h.below.trans k.below, fun cs t hi => k.box cs t (h.box cs t hi)⟩
theorem KpS.gr {B sb : Nat} {X Y : World} (g : Gr X Y) (hB : B ≤ X.heap.size) : KpS B sb X Y := ⟨Below.mono g hB, fun cs t h => h.gr g⟩
theorem KpS.put {B sb l : Nat} {W : World} (o o' : Obj) (hl : B ≤ l) (h : W.heap[l]? = some o) (hc : o.isCells = false) : KpS B sb W (W.putObj l o') := by
  have g := grownBy_putObj' W l o'
  have hl' : l < W.heap.size := (Array.getElem?_eq_some_iff.1 h).1
  refine ⟨⟨g.os, g.tape, g.output, g.size, fun k hk => g.block k (by omega) (fun e => by cases e; omega)⟩, fun cs t hb => ?_⟩
  have hne : sb ≠ l := fun e => by
    subst e
    have h1 : W.heap[sb]? = some (.cells cs t (0, 0)) := hb
    rw [h] at h1
    cases h1
    cases hc
  show (W.putObj l o').heap[sb]? = _
  rw [World.putObj_heap_other hne]
  exact hb

set_option maxHeartbeats 1000000 in
theorem Lines_is (s : ByteArray) (w : World) :
    Calls Tryd.prog 20 #[.string s] w fun e w' => e = .returned (.func (.func 34) #[] #[.pointer (some ⟨w.heap.size, 0, none⟩)]) ∧ w' = w.alloc (.cells #[.string s] 9) := by
  have hmf : ∀ W, (Instr.makeFunc (.func 34) #[] #[.pointer (some ⟨w.heap.size, 0, none⟩)]).run Tryd.prog W = .ok (.func (.func 34) #[] #[.pointer (some ⟨w.heap.size, 0, none⟩)]) W := fun W => by rfl
  go_enter Tryd.func20, Tryd.ntmps20
  go_wp2_with fail
  go_ret
  exact ⟨rfl, rfl⟩

theorem wrap_small {v : Int} (h0 : 0 ≤ v) (h1 : v ≤ 9223372036854775807) : IntKind.i64.wrap v = v := by
  rw [IntKind.wrap_i64]; omega
/-- How long what is left is. -/
def left (sb : Nat) (W : World) : Nat := match W.cell? ⟨sb, 0, none⟩ with | some (.string s) => s.size | _ => 0
theorem left_is {sb : Nat} {W : World} {s : Bs} {t : TypeId} (h : Blk W sb #[.string (bs s)] t) : left sb W = s.length := by
  unfold left
  rw [(h.at_ (k := 0) rfl).1]
  exact bs_size s
theorem prefix_snoc {α : Type} {L pre rest : List α} {x : α} (h : L = pre ++ x :: rest) : pre ++ [x] <+: L := ⟨rest, by rw [h]; simp⟩
set_option maxHeartbeats 4000000 in
theorem lines1_stops (t : Bs) (ht : t.length ≤ 100000) (m : Nat) (hm1 : 1 ≤ m) (B sb : Nat) (w : World) (hS : Blk w sb #[.string (bs t)] 9) :
    SelfStops m Tryd.prog 34 sb #[.pointer (some ⟨sb, 0, none⟩)] (fun x : Bs => .string (bs x)) (KpS B sb) (raws t) w := by
  intro l J Jx W hk hJ hJx hY h0
  have HS0 := Lib.hid (hk.box _ _ hS)
  have HJ := Lib.hid hJ
  have HY := Lib.hid hY
  have HJ0 := Lib.hid h0
  clear hk hJ hJx hY h0 hS
  refine callsIn_of_wp Tryd.func34 rfl trivial ?_ rfl
  simp only [Tryd.ntmps34, List.size_toArray, List.length_cons, List.length_nil, Nat.reduceAdd, Nat.reduceSub, Array.replicate_succ, Array.replicate_zero, List.push_toArray, List.append_toArray, List.nil_append, List.cons_append]
  gi_wp2_with fail
  gi_loopw [] (fun wr => ∃ pre rest, Hid (raws t = pre ++ raws rest) ∧ rest.length ≤ t.length ∧ Hid (Blk wr sb #[.string (bs rest)] 9) ∧ Hid (J pre wr)) (fun wr => left sb wr)
  case atStart => exact ⟨[], t, Lib.hid rfl, Nat.le_refl _, HS0, HJ0⟩
  case round =>
    clear HS0 HJ0
    obtain ⟨pre, rest, HR, hlen, HB, HJP⟩ := hrel
    have c0 := (HB.out.at_ (k := 0) rfl).1
    have z0 := (HB.out.at_ (k := 0) rfl).2
    have cl := HB.out.lt
    have hsz := bs_size rest
    by_cases hne : rest = []
    · subst hne
      have hz : (bs []).size = 0 := rfl
      have HF := Lib.hid (show raws t = pre from by rw [HR.out, raws_nil, List.append_nil])
      gi_wp2_with fail
      go_end0
      exact ⟨⟨_, rfl⟩, .inl (by rw [HF.out]; exact HJP.out)⟩
    · have h0 : 0 < rest.length := List.length_pos_iff.2 hne
      have hz : 0 < (bs rest).size := by omega
      have CE := Lib.hid (Idx_is rest wr)
      have HST := Lib.hid (raws_step hne)
      have HSH := Lib.hid (nxt_shorter hne)
      have HLT := Lib.hid (left_is HB.out)
      rcases byte_at 10 rest with ⟨e1, -⟩ | ⟨i, e1, hi, -, -⟩
      · rw [e1] at CE
        have HN := Lib.hid (show nxt rest = (rest, []) from by unfold nxt; rw [e1]; rfl)
        have HB2 := Lib.hid (HB.out.set 0 (.string (bs [])))
        have HJ2 := Lib.hid (HJ.out.1 pre wr (.string (bs [])) HJP.out)
        rw [bs_nil] at HB2 HJ2
        clear hne e1 HB HJP
        gi_wp2_with fail
        refine ⟨trivial, ?_⟩
        with_reducible refine (callsIn_wide.2 CE.out).mono ?_
        rintro e w1 ⟨rfl, hw1⟩
        obtain rfl : wr = w1 := hw1.symm
        obtain ⟨fn, tmps, assign, body, hyy, hR⟩ := HY.out pre rest _ HJ2.out (prefix_snoc (by rw [HR.out, HST.out, HN.out]))
        have HRR := Lib.hid hR
        clear hR
        gi_wp2_with fail
        refine HRR.out.mono ?_
        rintro e W3 (⟨rfl, hJ3, hk3⟩ | ⟨rfl, hJx3⟩)
        · have HB3 := Lib.hid (hk3.box _ _ HB2.out)
          have HJ3 := Lib.hid hJ3
          clear hJ3 hk3 hyy HRR
          gi_wp2_with fail
          go_roundw
          case rel => exact ⟨pre ++ [rest], [], Lib.hid (by rw [HR.out, HST.out, HN.out]; simp), by simp, HB3, HJ3⟩
          case measure => rw [HLT.out, left_is (s := []) HB3.out]; exact h0
        · have HJX := Lib.hid hJx3
          clear hJx3 hyy HRR
          gi_wp2_with fail
          refine bodyPost_ret (results_none rfl _ _ _) rfl ?_
          exact ⟨⟨_, rfl⟩, .inr ⟨_, prefix_snoc (by rw [HR.out, HST.out, HN.out]), HJX.out⟩⟩
      · rw [e1] at CE
        have HN := Lib.hid (show nxt rest = (rest.take (i + 1), rest.drop (i + 1)) from by unfold nxt; rw [e1, if_neg (by omega)]; rfl)
        obtain ⟨q, hq⟩ : ∃ q, i + 1 = q := ⟨_, rfl⟩
        have hqw : IntKind.i64.wrap ((i : Int) + 1) = (q : Int) := by rw [← hq]; exact wrap_small (by omega) (by omega)
        have q0 : (0 : Int) ≤ (q : Int) := by omega
        have qn : (q : Int) ≤ ((bs rest).size : Int) := by omega
        have i0 : (0 : Int) ≤ (i : Int) := by omega
        rw [hq] at HN
        have HHQ := Lib.hid hq
        clear hne e1 hi hq
        gi_wp2_with fail
        refine ⟨trivial, ?_⟩
        with_reducible refine (callsIn_wide.2 CE.out).mono ?_
        rintro e w1 ⟨rfl, hw1⟩
        obtain rfl : wr = w1 := hw1.symm
        gi_wp2_with fail
        refine wpIn_wide.2 ?_
        go_region
        have HB2 := Lib.hid ((HB.out.set 0 (.string ((bs rest).extract q rest.length))).gr (Gr.refl _).dr)
        have HJ2 := Lib.hid (HJ.out.2 _ _ (HJ.out.1 pre wr (.string ((bs rest).extract q rest.length)) HJP.out))
        obtain ⟨fn, tmps, assign, body, hyy, hR⟩ := HY.out pre (rest.take q) _ HJ2.out (prefix_snoc (by rw [HR.out, HST.out, HN.out]))
        have E2 := Lib.hid (show (bs rest).extract q rest.length = bs (rest.drop q) from by rw [bs_cut, List.take_of_length_le (by simp)])
        rw [show bs (rest.take q) = (bs rest).extract 0 q from by rw [bs_cut]; simp] at hyy
        have HRR := Lib.hid hR
        clear hR c0 z0
        generalize (wr.setCell ⟨sb, 0, none⟩ (.string ((bs rest).extract q rest.length))).drew = W2 at *
        gi_wp2_with fail
        refine HRR.out.mono ?_
        rintro e W3 (⟨rfl, hJ3, hk3⟩ | ⟨rfl, hJx3⟩)
        · have HB3 := Lib.hid (hk3.box _ _ HB2.out)
          have HJ3 := Lib.hid hJ3
          clear hJ3 hk3 hyy HRR
          gi_wp2_with fail
          go_roundw
          case rel => exact ⟨pre ++ [rest.take q], rest.drop q, Lib.hid (by rw [HR.out, HST.out, HN.out]; simp), by simp; omega, by rw [← E2.out]; exact HB3, HJ3⟩
          case measure => rw [HLT.out, left_is (s := rest.drop q) (by rw [← E2.out]; exact HB3.out)]; have := HHQ.out; simp; omega
        · have HJX := Lib.hid hJx3
          clear hJx3 hyy HRR
          gi_wp2_with fail
          refine bodyPost_ret (results_none rfl _ _ _) rfl ?_
          exact ⟨⟨_, rfl⟩, .inr ⟨_, prefix_snoc (by rw [HR.out, HST.out, HN.out]), HJX.out⟩⟩
end P12
end Go.Proofs.YtocojdiapaeajaaDoor
