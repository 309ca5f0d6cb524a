/-
  The library's functions that package prog calls, by the shelf's contracts; what the tables, the words and the two errors hold.
-/
import Derived.Test.YtocojdiapaeajaaDoorProgMath
import Derived.Test.YtocojdiapaeajaaDoorLays
import Derived.Test.YtocojdiapaeajaaDoorBlk
import Derived.Shelf.Strconv.Itoa3
import Derived.Shelf.Strconv.AtoiAll
import Derived.Shelf.Strconv.ErrVarAll
import Derived.Shelf.Strings.PiecesUse
import Derived.Lib.LaidTab
import Derived.Lib.AtoiErrMem
import Derived.Lib.SmallJoins
import Derived.Lib.AppendIntMem
namespace Go.Proofs.YtocojdiapaeajaaDoor
open Go.ChangeShapes Go.WideShapes Go.ChangeAt Go.RowKit
open Go.Shelf
set_option linter.unusedVariables false

namespace P12
/-- A list of bytes as a string. -/
def bs (l : Bs) : ByteArray := ⟨l.toArray⟩
theorem bs_list (l : Bs) : (bs l).data.toList = l := by simp [bs]
theorem bs_size (l : Bs) : (bs l).size = l.length := by show l.toArray.size = _; simp
theorem bs_mk (s : ByteArray) : bs s.data.toList = s := Lib.mk_data s
theorem bs_inj {a b : Bs} (h : bs a = bs b) : a = b := by rw [← bs_list a, h, bs_list]
theorem bs_nil : bs [] = ⟨#[]⟩ := rfl
theorem bs_append (a b : Bs) : bs a ++ bs b = bs (a ++ b) := by
  apply WideShapes.bytes_inj
  rw [bs_list]
  simp [bs_list]
theorem bs_cut (l : Bs) (a b : Nat) : (bs l).extract a b = bs ((l.drop a).take (b - a)) := by
  rw [Lib.extract_eq, bs_list]; rfl
theorem bs_eq (a b : Bs) : ((bs a).toList == (bs b).toList) = decide (a = b) := by
  rw [ByteArray.toList_eq, ByteArray.toList_eq, bs_list, bs_list]
  by_cases h : a = b
  · simp [h]
  · simp [h]

/-- What the call's world holds of the program's variables: the table that Itoa reads, the words, the two errors of strconv, and a number in bytealg.MaxLen. -/
structure Glob (w : World) : Prop where
  tab : Lib.TabIs Tryd.prog w "internal/strconv.uint64pow10" .u64 Lib.pow10Tab
  wds : w.var? Tryd.prog "deadbolt/prog.words" = some #[.string (bs (wd 0)), .string (bs (wd 1)), .string (bs (wd 2)), .string (bs (wd 3))]
  syn : ∃ tp p, w.var? Tryd.prog "strconv.ErrSyntax" = some #[.iface tp p]
  rng : ∃ tp p, w.var? Tryd.prog "strconv.ErrRange" = some #[.iface tp p]
  max : ∃ m, w.cell? ⟨1, 0, none⟩ = some (.int .i64 m)
theorem Glob.gr {w w' : World} (h : Glob w) (g : Gr w w') : Glob w' := by
  obtain ⟨h1, h2, ⟨t1, p1, h3⟩, ⟨t2, p2, h4⟩, ⟨m, h5⟩⟩ := h
  refine ⟨Joins.var_stays (by kernel_rfl : Tryd.prog.globalNamed "internal/strconv.uint64pow10" = some 2) h1 g (Nat.le_refl _),
    Joins.var_stays (by kernel_rfl : Tryd.prog.globalNamed "deadbolt/prog.words" = some 0) h2 g (Nat.le_refl _),
    ⟨t1, p1, Joins.var_stays (by kernel_rfl : Tryd.prog.globalNamed "strconv.ErrSyntax" = some 5) h3 g (Nat.le_refl _)⟩,
    ⟨t2, p2, Joins.var_stays (by kernel_rfl : Tryd.prog.globalNamed "strconv.ErrRange" = some 6) h4 g (Nat.le_refl _)⟩, m, ?_⟩
  have hlt := World.block_lt_of_cell? w _ h5
  rw [g.cell (p := ⟨1, 0, none⟩) hlt]
  exact h5
theorem Glob.word {w : World} (h : Glob w) {k : Int} (hk : 0 ≤ k ∧ k ≤ 3) : w.cell? ⟨0, k.toNat, none⟩ = some (.string (bs (wd k))) ∧ 0 < w.heap.size := by
  have hn : Tryd.prog.globalNamed "deadbolt/prog.words" = some 0 := by kernel_rfl
  have hc := World.var?_cell hn h.wds
  have e : k = 0 ∨ k = 1 ∨ k = 2 ∨ k = 3 := by omega
  have h0 : w.cell? ⟨0, k.toNat, none⟩ = some (.string (bs (wd k))) := by
    rcases e with rfl | rfl | rfl | rfl
    · exact hc 0
    · exact hc 1
    · exact hc 2
    · exact hc 3
  exact ⟨h0, World.block_lt_of_cell? w _ h0⟩

theorem Itoa_is {n : Int} (h0 : 0 ≤ n) (h1 : n ≤ 9223372036854775807) {w : World} (hg : Glob w) :
    Calls Tryd.prog 42 #[.int .i64 n] w fun e w' => e = .returned (.string (bs (dgs n))) ∧ Gr w w' := by
  refine (Any.strconv_Itoa Tryd.laysItoa n (by omega) h1 w hg.tab).mono ?_
  rintro e w' ⟨rfl, k, os, rfl⟩
  refine ⟨?_, Lib.below_grow _ _ (Nat.le_refl _) _ _⟩
  unfold Lib.itoa
  rw [if_neg (by omega)]
  rfl
theorem Atoi_ok {s : Bs} (hs : s.length ≤ 281474976710656) {v : Int} (h : Lib.atoiAll s = .ok v) (w : World) :
    Calls Tryd.prog 66 #[.string (bs s)] w fun e w' => e = .returned (.tuple #[.int .i64 v, .nilIface]) ∧ Gr w w' := by
  refine (Any.strconv_Atoi_ok Tryd.laysAtoi (bs s) (by rw [bs_size]; omega) v (by rw [bs_list]; exact h) w).mono ?_
  rintro e w' ⟨rfl, rfl | ⟨t, rfl⟩⟩
  · exact ⟨rfl, Gr.refl _⟩
  · exact ⟨rfl, Lib.bytesWorld_below _ _ _⟩
theorem Atoi_no {s : Bs} (hs : s.length ≤ 281474976710656) (h : ∀ v, Lib.atoiAll s ≠ .ok v) {w : World} (hg : Glob w) :
    Calls Tryd.prog 66 #[.string (bs s)] w fun e w' => (∃ (v : Int) (N : Nat), e = .returned (.tuple #[.int .i64 v, .iface 113 (.pointer (some ⟨N, 0, none⟩))])) ∧ Gr w w' := by
  obtain ⟨t1, p1, h1⟩ := hg.syn
  obtain ⟨t2, p2, h2⟩ := hg.rng
  have e : (bs s).data.toList = s := bs_list s
  cases hc : Lib.atoiAll s
  · exact absurd hc (h _)
  · refine (Any.strconv_Atoi_syntax_var Tryd.laysAtoi (bs s) (by rw [bs_size]; omega) (by rw [e]; exact hc) t1 p1 w h1).mono ?_
    rintro e w' ⟨N, rfl, -, -, hb⟩
    exact ⟨⟨0, N, rfl⟩, hb⟩
  · refine (Any.strconv_Atoi_range_var Tryd.laysAtoi (bs s) (by rw [bs_size]; omega) (by rw [e]; exact hc) t2 p2 w h2).mono ?_
    rintro e w' ⟨N, rfl, -, -, hb⟩
    exact ⟨⟨_, N, rfl⟩, hb⟩
theorem Cut_is {s d : Bs} (hs : s.length < 4294967281) {w : World} (hg : Glob w) :
    Calls Tryd.prog 58 #[.string (bs s), .string (bs d)] w fun e w' => e = .returned (.tuple #[.string (bs (Lib.cut s d).1), .string (bs (Lib.cut s d).2.1), .bool (Lib.cut s d).2.2]) ∧ Gr w w' := by
  obtain ⟨m, hm⟩ := hg.max
  refine (Any.strings_Cut { Tryd.laysCut with } (bs s) (bs d) m w (by rw [bs_size]; exact hs) hm).mono ?_
  rintro e w' ⟨rfl, n, rfl⟩
  rw [bs_list, bs_list]
  exact ⟨rfl, (Gr.refl w).drN n⟩
theorem Split_is {s d : Bs} (hs : s.length < 4294967281) (hd : 1 ≤ d.length) {w : World} (hg : Glob w) :
    Calls Tryd.prog 37 #[.string (bs s), .string (bs d)] w fun e w' =>
      e = .returned (.slice (some ⟨w.heap.size, 0, none⟩) (Lib.split s d).length (Lib.split s d).length) ∧ w' = w.alloc (.cells ((Lib.split s d).map fun l => Value.string (bs l)).toArray 9) := by
  obtain ⟨m, hm⟩ := hg.max
  have h := Any.strings_Split { Tryd.laysSplit with } Tryd.laysSplit.i9 (bs s) (bs d) m w (by rw [bs_size]; exact hs) hm (by rw [bs_size]; exact hd)
  have e1 : Lib.countB (bs s) (bs d) = Lib.count s d := by unfold Lib.countB; rw [bs_list, bs_list]
  have e2 := Lib.splitB_data (bs d) 0 (Lib.countB (bs s) (bs d)) (bs s)
  have e3 := Lib.splitB_all (bs d) (by rw [bs_size]; exact hd) 0 _ (bs s) rfl
  have e4 := congrArg List.length e2
  rw [List.length_map, e3, bs_list, bs_list] at e4
  rw [bs_list, bs_list] at e2
  rw [e1] at e2 e4 h
  have e5 : (Lib.splitB (bs d) 0 (Lib.count s d) (bs s)).map Value.string = (Lib.split s d).map fun l => Value.string (bs l) := by
    unfold Lib.split
    rw [← e2, List.map_map]
    apply List.map_congr_left
    intro x _
    show _ = Value.string (bs x.data.toList)
    rw [bs_mk]
  rw [e5, e4] at h
  exact h
theorem Trim_is {s d : Bs} (hs : s.length ≤ 9223372036854775807) (w : World) :
    Calls Tryd.prog 22 #[.string (bs s), .string (bs d)] w fun e w' => e = .returned (.string (bs (Lib.trimSuffix s d))) ∧ w' = w := by
  have h := Any.strings_TrimSuffix Tryd.laysTrim (bs s) (bs d) w (by rw [bs_size]; exact hs)
  rw [bs_list, bs_list] at h
  exact h
theorem Idx_is (s : Bs) (w : World) :
    Calls Tryd.prog 35 #[.string (bs s), .int .u8 10] w fun e w' => e = .returned (.int .i64 (Lib.indexByte s 10)) ∧ w' = w := by
  have h := Any.strings_IndexByte Tryd.laysIdx (bs s) 10 w
  rw [bs_list] at h
  exact h

/-! The Builder. -/
def lwb : Go.Shelf.Ren := ⟨fun | 167 => 27 | n => Tryd.laysJoin_ren.f n, Tryd.laysJoin_ren.t, Tryd.laysJoin_ren.g⟩
theorem laysWB : Go.Proofs.Lays.n167 Tryd.prog lwb := {
  mixed := by kernel_rfl
  f167 := Tryd.func27.trans (congrArg some (by kernel_rfl))
  f240 := Tryd.func41.trans (congrArg some (by kernel_rfl))
  f276 := Tryd.func53.trans (congrArg some (by kernel_rfl))
  t0 := Tryd.laysJoin.t0, a0 := Tryd.laysJoin.a0, z0 := Tryd.laysJoin.z0, v0 := Tryd.laysJoin.v0
  t4 := Tryd.laysJoin.t4, a4 := Tryd.laysJoin.a4, z4 := Tryd.laysJoin.z4, v4 := Tryd.laysJoin.v4
  t5 := Tryd.extraJoin.t5, a5 := Tryd.extraJoin.a5, z5 := Tryd.extraJoin.z5, v5 := Tryd.extraJoin.v5
  t9 := Tryd.laysJoin.t9, a9 := Tryd.laysJoin.a9, z9 := Tryd.laysJoin.z9, v9 := Tryd.laysJoin.v9
  t20 := Tryd.laysJoin.t20, a20 := Tryd.laysJoin.a20, z20 := Tryd.laysJoin.z20, v20 := Tryd.laysJoin.v20
  t37 := Tryd.laysJoin.t37, a37 := Tryd.laysJoin.a37, z37 := Tryd.laysJoin.z37, v37 := Tryd.laysJoin.v37
  t70 := Tryd.laysJoin.t70, a70 := Tryd.laysJoin.a70, z70 := Tryd.laysJoin.z70, v70 := Tryd.laysJoin.v70
  t72 := Tryd.laysJoin.t72, a72 := Tryd.laysJoin.a72, z72 := Tryd.laysJoin.z72, v72 := Tryd.laysJoin.v72
  t75 := Tryd.laysJoin.t75, a75 := Tryd.laysJoin.a75, z75 := Tryd.laysJoin.z75, v75 := Tryd.laysJoin.v75
  t164 := Tryd.laysJoin.t164, a164 := Tryd.laysJoin.a164, z164 := Tryd.laysJoin.z164, v164 := Tryd.laysJoin.v164 }
theorem extraWB : Builder.Extra Tryd.prog lwb := {
  sizeBuilder := by kernel_rfl
  liesBuilder := by kernel_rfl
  t5 := Tryd.extraJoin.t5
  a5 := Tryd.extraJoin.a5
  z5 := Tryd.extraJoin.z5
  v5 := Tryd.extraJoin.v5
  infoByte := by kernel_rfl
  cellsByte := by kernel_rfl
  sizeByte := by kernel_rfl
  neB5 := by decide }
/-- The builder in block b holds the bytes l; all that it has is in blocks from b on. -/
abbrev Bld (w : World) (b : Nat) (l : Bs) : Prop := Lib.IsBuilder 53 5 b b (Lib.byteCells l) w
theorem WS_is {w : World} {b : Nat} {l s : Bs} (h : Bld w b l) (hb : b ≤ w.heap.size) (hl : l.length + s.length ≤ 140737488355328) :
    Calls Tryd.prog 25 #[.pointer (some ⟨b, 0, none⟩), .string (bs s)] w fun e w' => e = .returned (.tuple #[.int .i64 (s.length : Int), .nilIface]) ∧ Bld w' b (l ++ s) ∧ Below b w w' := by
  have h1 := Any.Builder_WriteString { Tryd.laysJoin with } Tryd.extraJoin b b (Lib.byteCells l) (bs s) w h (by rw [Lib.byteCells_length, bs_size]; exact hl) hb
  rw [bs_size] at h1
  refine h1.mono ?_
  rintro e w' ⟨rfl, h2, h3⟩
  refine ⟨rfl, .inr ?_, h3⟩
  rw [Lib.byteCells_append]
  rw [Lib.strCells_eq, bs_list] at h2
  exact h2
theorem WB_is {w : World} {b : Nat} {l : Bs} (h : Bld w b l) (hb : b ≤ w.heap.size) (hl : l.length + 1 ≤ 140737488355328) :
    Calls Tryd.prog 27 #[.pointer (some ⟨b, 0, none⟩), .int .u8 10] w fun e w' => e = .returned .nilIface ∧ Bld w' b (l ++ [10]) ∧ Below b w w' := by
  have h1 := Any.Builder_WriteByte laysWB extraWB b b (Lib.byteCells l) 10 w h (by rw [Lib.byteCells_length]; exact hl) hb
  refine h1.mono ?_
  rintro e w' ⟨rfl, h2, h3⟩
  refine ⟨rfl, .inr ?_, h3⟩
  rw [Lib.byteCells_append]
  exact h2
theorem Str_is {w : World} {b : Nat} {l : Bs} (h : Bld w b l) (hb : b ≤ w.heap.size) :
    Calls Tryd.prog 28 #[.pointer (some ⟨b, 0, none⟩)] w fun e w' => e = .returned (.string (bs l)) ∧ Below b w w' :=
  Any.Builder_String_any Tryd.laysStr Tryd.extraStr b b l w h hb
end P12
end Go.Proofs.YtocojdiapaeajaaDoor
