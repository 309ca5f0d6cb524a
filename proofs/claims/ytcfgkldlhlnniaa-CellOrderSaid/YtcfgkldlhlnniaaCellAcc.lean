/-
  Package cell: an access, and Store, Add, Swap, Cas.
-/
import Derived.Test.YtcfgkldlhlnniaaCellFn
import Derived.Test.YtcfgkldlhlnniaaCopyN
namespace Go.Proofs.Ytcfgkldlhlnniaa
open Go.ChangeShapes Go.WideShapes Go.ChangeAt Go.RowKit
set_option linter.unusedVariables false

theorem infoCell : (Try.prog.info? 42).map (fun i => (i.zero, i.size, i.bytes)) = some (some (.agg #[.int .i64 0, .int .i64 0]), 2, 16) := by kernel_rfl

/-- A new memory l that lies in new memory, and what is told. -/
def GotMem (w : World) (n : Nat) (l : List (Int × Int)) (t : Value) (e : Ending) (w' : World) : Prop :=
  ∃ g, e = .returned (.tuple #[.slice (some ⟨g, 0, none⟩) n n, t, .int .i64 0]) ∧ Mem w' (some ⟨g, 0, none⟩) n l ∧ Gr w w'

theorem new2 (w : World) (o o' : Obj) : ((w.alloc o).alloc o').heap[w.heap.size + 1]? = some o' := by
  have := heap_alloc_new (w.alloc o) o'
  simpa using this
theorem made_mem {w3 : World} {g n : Nat} {l : List (Int × Int)} {i : Nat} {x : Int × Int} {y : Int} {t : TypeId} (hl : l.length = n) (hb : ∀ z ∈ l, Inb z.1 ∧ Inb z.2) (hx : l[i]? = some x) (hy : Inb y)
    (h : w3.heap[g]? = some (.cells (flat l).toArray t (0, 0))) : Mem (w3.setCell ⟨g, i * 2 + 1, none⟩ (.int .i64 y)) (some ⟨g, 0, none⟩) n (l.set i (x.1, y)) := by
  have hlt : g < w3.heap.size := (Array.getElem?_eq_some_iff.1 h).1
  refine ⟨by rw [List.length_set]; exact hl, fun z hz => ?_, fun hn => ⟨g, 0, rfl, by simpa [World.setCell] using hlt, fun j u hu => ?_⟩⟩
  · rcases List.mem_or_eq_of_mem_set hz with h | rfl
    · exact hb z h
    · exact ⟨(hb x (List.mem_of_getElem? hx)).1, hy⟩
  · rw [flat_set2 l i x y hx] at hu
    rw [Nat.zero_add]
    have h2 : (w3.setCell ⟨g, i * 2 + 1, none⟩ (.int .i64 y)).heap[g]? = some (.cells ((flat l).set (i * 2 + 1) (.int .i64 y)).toArray t (0, 0)) := by
      simp [World.setCell, Array.getElem?_modify, h]
    rw [cell_of_row _ g j _ t (0, 0) h2]
    simpa using hu

set_option maxHeartbeats 1000000 in
theorem accAdd {A : Option Addr} {n c : Nat} {l : List (Int × Int)} {i : Nat} {x : Int × Int} {told : Value} {y : Int} {p : Addr} {w : World} (hF : FindIs A n c l i x.1 x.2 0)
    (hcl : ∀ W, Gr w W → Calls Try.prog 22 #[.agg #[.int .i64 x.1, .int .i64 x.2], .pointer (some p)] W fun e w' => e = .returned (.tuple #[.int .i64 y, told]) ∧ Gr W w')
    (hm : Mem w A n l) (hn : n ≤ 64) (hx : l[i]? = some x) (hy : Inb y) :
    Calls Try.prog 21 #[.slice A n c, .int .i64 i, .func (.func 22) #[] #[.pointer (some p)]] w (GotMem w n (l.set i (x.1, y)) told) := by
  have hi : i < n := by have := (List.getElem?_eq_some_iff.1 hx).1; have := hm.1; omega
  have hi0 : ¬ (i : Int) < 0 := by omega
  have hi1 : (i : Int) < (n : Int) := by omega
  obtain ⟨b, off, rfl, hbl, hsrc⟩ := hm.2.2 (by omega)
  obtain ⟨i0, hj, hz0, hz1, hz2⟩ := info_parts infoCell
  have hmk := fun W => run_makeN (P := Try.prog) 22 42 i0 _ Try.underlying22 hj hz0 n (by rw [hz2]; omega) (by omega) W
  rw [hz1] at hmk
  obtain ⟨M, hM⟩ : ∃ M, madeCells (Value.agg #[.int .i64 0, .int .i64 0]).cells (n * 2) = M := ⟨_, rfl⟩
  have hMs : M.size = n * 2 := by rw [← hM, size_madeCells]
  rw [hM] at hmk
  have HM := Lib.hid hMs
  have HX := Lib.hid hx
  have hcl0 := Lib.hid hcl
  have hsz := Lib.hid (show (Try.prog.info? 42).map (·.size) = some 2 by rw [hj]; simp [hz1])
  have hfl := Lib.hid (flat_len l)
  have HS := Lib.hid hsrc
  have HL := Lib.hid hm.1
  have HI := Lib.hid hm.2.1
  clear hcl hM hMs hx hz0 hz1 hz2 hj hsrc
  obtain ⟨x1, x2⟩ := x
  go_enter Try.func21, Try.ntmps21
  go_wp2_with fail
  refine (hF _ hm).mono ?_
  rintro ee w1 ⟨rfl, hb1⟩
  clear hm
  have hz : b < w1.heap.size := Nat.lt_of_lt_of_le hbl hb1.size
  go_wp2_with (with_reducible refine wpList_copyN rfl (.tmp 28) (.tmp 29) 22 22 rfl 42 2 Try.underlying22 hsz.out (w1.heap.size + 1) n n b off c rfl rfl M 42 ?hg (flat l) ?hn ?hs ?hf (flat_one l) ?_)
  case hg => exact new2 w1 _ _
  case hn => rw [hfl.out, HL.out]
  case hf => rw [hfl.out, HL.out, HM.out]
  case hs =>
    intro j v hv
    exact ((((Gr.refl w1).al _).al _).cell (p := ⟨b, off + j, none⟩) hz).trans ((hb1.cell (p := ⟨b, off + j, none⟩) hbl).trans (HS.out j v hv))
  intro w2 HG hB2 hS2
  have hS3 : w2.heap.size = w1.heap.size + 1 + 1 := by simpa using hS2
  have q0 : w2.cell? ⟨w1.heap.size, 0, none⟩ = some (.int .i64 x1) := (hB2.cell (p := ⟨w1.heap.size, 0, none⟩) (by simp)).trans (by simp)
  have q1 : w2.cell? ⟨w1.heap.size, 1, none⟩ = some (.int .i64 x2) := (hB2.cell (p := ⟨w1.heap.size, 1, none⟩) (by simp)).trans (by simp)
  have hG2 : Gr w w2 := ((hb1.al _).al _).trans' (hB2.mono (by have := hb1.size; omega))
  have HS3 := Lib.hid hS3
  clear hS2 hS3 hB2
  go_wp2_with fail
  refine (hcl0.out _ hG2).mono ?_
  rintro ee w3 ⟨rfl, hb3⟩
  have hg3 : w3.heap[w1.heap.size + 1]? = some (.cells (flat l).toArray 42 (0, 0)) := (hb3.block _ (by have := HS3.out; omega)).trans HG.out
  have hcl3 : w3.cell? ⟨w1.heap.size + 1, i * 2 + 1, none⟩ = some (.int .i64 x2) := by
    rw [cell_of_row _ _ _ _ _ (0, 0) hg3]; simpa using flat_get1 l i _ HX.out
  have hfr3 : w3.frozen? ⟨w1.heap.size + 1, i * 2 + 1, none⟩ = false := by simp [World.frozen?, hg3]
  have HG3 := Lib.hid hg3
  clear hg3
  go_wp2_with fail
  go_ret3
  exact ⟨w1.heap.size + 1, rfl, made_mem HL.out HI.out HX.out hy HG3.out, (hG2.trans hb3).st (by have := hb1.size; simp; omega) _⟩

set_option maxHeartbeats 1000000 in
theorem accSwap {A : Option Addr} {n c : Nat} {l : List (Int × Int)} {i : Nat} {x : Int × Int} {told : Value} {y : Int} {p : Addr} {w : World} (hF : FindIs A n c l i x.1 x.2 0)
    (hcl : ∀ W, Gr w W → Calls Try.prog 24 #[.agg #[.int .i64 x.1, .int .i64 x.2], .pointer (some p)] W fun e w' => e = .returned (.tuple #[.int .i64 y, told]) ∧ Gr W w')
    (hm : Mem w A n l) (hn : n ≤ 64) (hx : l[i]? = some x) (hy : Inb y) :
    Calls Try.prog 21 #[.slice A n c, .int .i64 i, .func (.func 24) #[] #[.pointer (some p)]] w (GotMem w n (l.set i (x.1, y)) told) := by
  have hi : i < n := by have := (List.getElem?_eq_some_iff.1 hx).1; have := hm.1; omega
  have hi0 : ¬ (i : Int) < 0 := by omega
  have hi1 : (i : Int) < (n : Int) := by omega
  obtain ⟨b, off, rfl, hbl, hsrc⟩ := hm.2.2 (by omega)
  obtain ⟨i0, hj, hz0, hz1, hz2⟩ := info_parts infoCell
  have hmk := fun W => run_makeN (P := Try.prog) 22 42 i0 _ Try.underlying22 hj hz0 n (by rw [hz2]; omega) (by omega) W
  rw [hz1] at hmk
  obtain ⟨M, hM⟩ : ∃ M, madeCells (Value.agg #[.int .i64 0, .int .i64 0]).cells (n * 2) = M := ⟨_, rfl⟩
  have hMs : M.size = n * 2 := by rw [← hM, size_madeCells]
  rw [hM] at hmk
  have HM := Lib.hid hMs
  have HX := Lib.hid hx
  have hcl0 := Lib.hid hcl
  have hsz := Lib.hid (show (Try.prog.info? 42).map (·.size) = some 2 by rw [hj]; simp [hz1])
  have hfl := Lib.hid (flat_len l)
  have HS := Lib.hid hsrc
  have HL := Lib.hid hm.1
  have HI := Lib.hid hm.2.1
  clear hcl hM hMs hx hz0 hz1 hz2 hj hsrc
  obtain ⟨x1, x2⟩ := x
  go_enter Try.func21, Try.ntmps21
  go_wp2_with fail
  refine (hF _ hm).mono ?_
  rintro ee w1 ⟨rfl, hb1⟩
  clear hm
  have hz : b < w1.heap.size := Nat.lt_of_lt_of_le hbl hb1.size
  go_wp2_with (with_reducible refine wpList_copyN rfl (.tmp 28) (.tmp 29) 22 22 rfl 42 2 Try.underlying22 hsz.out (w1.heap.size + 1) n n b off c rfl rfl M 42 ?hg (flat l) ?hn ?hs ?hf (flat_one l) ?_)
  case hg => exact new2 w1 _ _
  case hn => rw [hfl.out, HL.out]
  case hf => rw [hfl.out, HL.out, HM.out]
  case hs =>
    intro j v hv
    exact ((((Gr.refl w1).al _).al _).cell (p := ⟨b, off + j, none⟩) hz).trans ((hb1.cell (p := ⟨b, off + j, none⟩) hbl).trans (HS.out j v hv))
  intro w2 HG hB2 hS2
  have hS3 : w2.heap.size = w1.heap.size + 1 + 1 := by simpa using hS2
  have q0 : w2.cell? ⟨w1.heap.size, 0, none⟩ = some (.int .i64 x1) := (hB2.cell (p := ⟨w1.heap.size, 0, none⟩) (by simp)).trans (by simp)
  have q1 : w2.cell? ⟨w1.heap.size, 1, none⟩ = some (.int .i64 x2) := (hB2.cell (p := ⟨w1.heap.size, 1, none⟩) (by simp)).trans (by simp)
  have hG2 : Gr w w2 := ((hb1.al _).al _).trans' (hB2.mono (by have := hb1.size; omega))
  have HS3 := Lib.hid hS3
  clear hS2 hS3 hB2
  go_wp2_with fail
  refine (hcl0.out _ hG2).mono ?_
  rintro ee w3 ⟨rfl, hb3⟩
  have hg3 : w3.heap[w1.heap.size + 1]? = some (.cells (flat l).toArray 42 (0, 0)) := (hb3.block _ (by have := HS3.out; omega)).trans HG.out
  have hcl3 : w3.cell? ⟨w1.heap.size + 1, i * 2 + 1, none⟩ = some (.int .i64 x2) := by
    rw [cell_of_row _ _ _ _ _ (0, 0) hg3]; simpa using flat_get1 l i _ HX.out
  have hfr3 : w3.frozen? ⟨w1.heap.size + 1, i * 2 + 1, none⟩ = false := by simp [World.frozen?, hg3]
  have HG3 := Lib.hid hg3
  clear hg3
  go_wp2_with fail
  go_ret3
  exact ⟨w1.heap.size + 1, rfl, made_mem HL.out HI.out HX.out hy HG3.out, (hG2.trans hb3).st (by have := hb1.size; simp; omega) _⟩

set_option maxHeartbeats 1000000 in
theorem accCas {A : Option Addr} {n c : Nat} {l : List (Int × Int)} {i : Nat} {x : Int × Int} {told : Value} {y : Int} {p q : Addr} {w : World} (hF : FindIs A n c l i x.1 x.2 0)
    (hcl : ∀ W, Gr w W → Calls Try.prog 27 #[.agg #[.int .i64 x.1, .int .i64 x.2], .pointer (some p), .pointer (some q)] W fun e w' => e = .returned (.tuple #[.int .i64 y, told]) ∧ Gr W w')
    (hm : Mem w A n l) (hn : n ≤ 64) (hx : l[i]? = some x) (hy : Inb y) :
    Calls Try.prog 26 #[.slice A n c, .int .i64 i, .func (.func 27) #[] #[.pointer (some p), .pointer (some q)]] w (GotMem w n (l.set i (x.1, y)) told) := by
  have hi : i < n := by have := (List.getElem?_eq_some_iff.1 hx).1; have := hm.1; omega
  have hi0 : ¬ (i : Int) < 0 := by omega
  have hi1 : (i : Int) < (n : Int) := by omega
  obtain ⟨b, off, rfl, hbl, hsrc⟩ := hm.2.2 (by omega)
  obtain ⟨i0, hj, hz0, hz1, hz2⟩ := info_parts infoCell
  have hmk := fun W => run_makeN (P := Try.prog) 22 42 i0 _ Try.underlying22 hj hz0 n (by rw [hz2]; omega) (by omega) W
  rw [hz1] at hmk
  obtain ⟨M, hM⟩ : ∃ M, madeCells (Value.agg #[.int .i64 0, .int .i64 0]).cells (n * 2) = M := ⟨_, rfl⟩
  have hMs : M.size = n * 2 := by rw [← hM, size_madeCells]
  rw [hM] at hmk
  have HM := Lib.hid hMs
  have HX := Lib.hid hx
  have hcl0 := Lib.hid hcl
  have hsz := Lib.hid (show (Try.prog.info? 42).map (·.size) = some 2 by rw [hj]; simp [hz1])
  have hfl := Lib.hid (flat_len l)
  have HS := Lib.hid hsrc
  have HL := Lib.hid hm.1
  have HI := Lib.hid hm.2.1
  clear hcl hM hMs hx hz0 hz1 hz2 hj hsrc
  obtain ⟨x1, x2⟩ := x
  go_enter Try.func26, Try.ntmps26
  go_wp2_with fail
  refine (hF _ hm).mono ?_
  rintro ee w1 ⟨rfl, hb1⟩
  clear hm
  have hz : b < w1.heap.size := Nat.lt_of_lt_of_le hbl hb1.size
  go_wp2_with (with_reducible refine wpList_copyN rfl (.tmp 28) (.tmp 29) 22 22 rfl 42 2 Try.underlying22 hsz.out (w1.heap.size + 1) n n b off c rfl rfl M 42 ?hg (flat l) ?hn ?hs ?hf (flat_one l) ?_)
  case hg => exact new2 w1 _ _
  case hn => rw [hfl.out, HL.out]
  case hf => rw [hfl.out, HL.out, HM.out]
  case hs =>
    intro j v hv
    exact ((((Gr.refl w1).al _).al _).cell (p := ⟨b, off + j, none⟩) hz).trans ((hb1.cell (p := ⟨b, off + j, none⟩) hbl).trans (HS.out j v hv))
  intro w2 HG hB2 hS2
  have hS3 : w2.heap.size = w1.heap.size + 1 + 1 := by simpa using hS2
  have q0 : w2.cell? ⟨w1.heap.size, 0, none⟩ = some (.int .i64 x1) := (hB2.cell (p := ⟨w1.heap.size, 0, none⟩) (by simp)).trans (by simp)
  have q1 : w2.cell? ⟨w1.heap.size, 1, none⟩ = some (.int .i64 x2) := (hB2.cell (p := ⟨w1.heap.size, 1, none⟩) (by simp)).trans (by simp)
  have hG2 : Gr w w2 := ((hb1.al _).al _).trans' (hB2.mono (by have := hb1.size; omega))
  have HS3 := Lib.hid hS3
  clear hS2 hS3 hB2
  go_wp2_with fail
  refine (hcl0.out _ hG2).mono ?_
  rintro ee w3 ⟨rfl, hb3⟩
  have hg3 : w3.heap[w1.heap.size + 1]? = some (.cells (flat l).toArray 42 (0, 0)) := (hb3.block _ (by have := HS3.out; omega)).trans HG.out
  have hcl3 : w3.cell? ⟨w1.heap.size + 1, i * 2 + 1, none⟩ = some (.int .i64 x2) := by
    rw [cell_of_row _ _ _ _ _ (0, 0) hg3]; simpa using flat_get1 l i _ HX.out
  have hfr3 : w3.frozen? ⟨w1.heap.size + 1, i * 2 + 1, none⟩ = false := by simp [World.frozen?, hg3]
  have HG3 := Lib.hid hg3
  clear hg3
  go_wp2_with fail
  go_ret3
  exact ⟨w1.heap.size + 1, rfl, made_mem HL.out HI.out HX.out hy HG3.out, (hG2.trans hb3).st (by have := hb1.size; simp; omega) _⟩

set_option maxHeartbeats 400000 in
theorem accInt_no {A : Option Addr} {n c : Nat} {l : List (Int × Int)} {i e : Int} {f : Value} {w : World} (hF : FindIs A n c l i 0 0 e) (he : e = 1 ∨ e = 3) (hm : Mem w A n l) :
    Calls Try.prog 21 #[.slice A n c, .int .i64 i, f] w fun ee w' => ee = .returned (.tuple #[.slice none 0 0, .int .i64 0, .int .i64 e]) ∧ Gr w w' := by
  rcases he with rfl | rfl
  · go_enter Try.func21, Try.ntmps21
    go_wp2_with fail
    refine (hF _ hm).mono ?_
    rintro ee w1 ⟨rfl, hb1⟩
    go_wp2_with fail
    go_ret3
    exact ⟨rfl, hb1.al _⟩
  · go_enter Try.func21, Try.ntmps21
    go_wp2_with fail
    refine (hF _ hm).mono ?_
    rintro ee w1 ⟨rfl, hb1⟩
    go_wp2_with fail
    go_ret3
    exact ⟨rfl, hb1.al _⟩

set_option maxHeartbeats 400000 in
theorem accBool_no {A : Option Addr} {n c : Nat} {l : List (Int × Int)} {i e : Int} {f : Value} {w : World} (hF : FindIs A n c l i 0 0 e) (he : e = 1 ∨ e = 3) (hm : Mem w A n l) :
    Calls Try.prog 26 #[.slice A n c, .int .i64 i, f] w fun ee w' => ee = .returned (.tuple #[.slice none 0 0, .bool false, .int .i64 e]) ∧ Gr w w' := by
  rcases he with rfl | rfl
  · go_enter Try.func26, Try.ntmps26
    go_wp2_with fail
    refine (hF _ hm).mono ?_
    rintro ee w1 ⟨rfl, hb1⟩
    go_wp2_with fail
    go_ret3
    exact ⟨rfl, hb1.al _⟩
  · go_enter Try.func26, Try.ntmps26
    go_wp2_with fail
    refine (hF _ hm).mono ?_
    rintro ee w1 ⟨rfl, hb1⟩
    go_wp2_with fail
    go_ret3
    exact ⟨rfl, hb1.al _⟩
end Go.Proofs.Ytcfgkldlhlnniaa
