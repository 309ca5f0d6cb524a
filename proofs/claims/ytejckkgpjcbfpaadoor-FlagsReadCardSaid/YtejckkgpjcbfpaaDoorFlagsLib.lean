/-
  strconv.Itoa and strconv.Atoi at this program, by the shelf's contracts; what the tables and the two errors hold.
-/
import Derived.Test.YtejckkgpjcbfpaaDoorFlags
import Derived.Test.YtejckkgpjcbfpaaDoorLays
import Derived.Shelf.Strconv.Itoa3
import Derived.Shelf.Strconv.AtoiAll
import Derived.Shelf.Strconv.ErrVarAll
import Derived.Lib.LaidTab
import Derived.Lib.AtoiErrMem
import Derived.Lib.SmallJoins
import Derived.Lib.AppendIntMem
namespace Go.Proofs.YtejckkgpjcbfpaaDoor
open Go.ChangeShapes Go.WideShapes Go.ChangeAt Go.RowKit
open Go.Shelf
set_option linter.unusedVariables false

/-- The table that Itoa reads is as its text lays it. -/
def Tab (w : World) : Prop := Lib.TabIs Tryd.prog w "internal/strconv.uint64pow10" .u64 Lib.pow10Tab
theorem Tab.gr {w w' : World} (h : Tab w) (g : Gr w w') : Tab w' := Joins.var_stays (by kernel_rfl : Tryd.prog.globalNamed "internal/strconv.uint64pow10" = some 2) h g (Nat.le_refl _)
theorem Tab.drN {w : World} (h : Tab w) (n : Nat) : Tab (w.drewN n) := h.gr ((Gr.refl w).drN n)
/-- The two errors of strconv hold errors. -/
def Errs (w : World) : Prop := (∃ tp p, w.var? Tryd.prog "strconv.ErrSyntax" = some #[.iface tp p]) ∧ (∃ tp p, w.var? Tryd.prog "strconv.ErrRange" = some #[.iface tp p])
theorem Errs.gr {w w' : World} (h : Errs w) (g : Gr w w') : Errs w' := by
  obtain ⟨⟨t1, p1, h1⟩, ⟨t2, p2, h2⟩⟩ := h
  exact ⟨⟨t1, p1, Joins.var_stays (by kernel_rfl : Tryd.prog.globalNamed "strconv.ErrSyntax" = some 0) h1 g (Nat.le_refl _)⟩, ⟨t2, p2, Joins.var_stays (by kernel_rfl : Tryd.prog.globalNamed "strconv.ErrRange" = some 1) h2 g (Nat.le_refl _)⟩⟩

theorem Itoa_ok (n : Int) (h0 : 0 ≤ n) (h1 : n ≤ 9223372036854775807) (w : World) (ht : Tab w) :
    Calls Tryd.prog 23 #[.int .i64 n] w fun e w' => e = .returned (.string ⟨(Lib.decDigits n.toNat).toArray⟩) ∧ Gr w w' := by
  refine (Any.strconv_Itoa Tryd.laysItoa n (by omega) h1 w ht).mono ?_
  rintro e w' ⟨rfl, k, os, rfl⟩
  refine ⟨?_, Lib.below_grow _ _ (Nat.le_refl _) _ _⟩
  unfold Lib.itoa
  rw [if_neg (by omega)]
theorem Atoi_ok (s : ByteArray) (hs : s.size ≤ 20) (v : Int) (h : Lib.atoiAll s.data.toList = .ok v) (w : World) :
    Calls Tryd.prog 27 #[.string s] w fun e w' => e = .returned (.tuple #[.int .i64 v, .nilIface]) ∧ Gr w w' := by
  refine (Any.strconv_Atoi_ok Tryd.laysAtoi s (by omega) v h w).mono ?_
  rintro e w' ⟨rfl, rfl | ⟨t, rfl⟩⟩
  · exact ⟨rfl, Gr.refl _⟩
  · exact ⟨rfl, Lib.bytesWorld_below _ _ _⟩
theorem Atoi_no (s : ByteArray) (hs : s.size ≤ 20) (h : ∀ v, Lib.atoiAll s.data.toList ≠ .ok v) (w : World) (he : Errs w) :
    Calls Tryd.prog 27 #[.string s] w fun e w' => (∃ (v : Int) (N : Nat), e = .returned (.tuple #[.int .i64 v, .iface 57 (.pointer (some ⟨N, 0, none⟩))])) ∧ Gr w w' := by
  obtain ⟨⟨t1, p1, h1⟩, ⟨t2, p2, h2⟩⟩ := he
  cases hc : Lib.atoiAll s.data.toList
  · exact absurd hc (h _)
  · refine (Any.strconv_Atoi_syntax_var Tryd.laysAtoi s (by omega) hc t1 p1 w h1).mono ?_
    rintro e w' ⟨N, rfl, -, -, hb⟩
    exact ⟨⟨0, N, rfl⟩, hb⟩
  · refine (Any.strconv_Atoi_range_var Tryd.laysAtoi s (by omega) hc t2 p2 w h2).mono ?_
    rintro e w' ⟨N, rfl, -, -, hb⟩
    exact ⟨⟨_, N, rfl⟩, hb⟩
end Go.Proofs.YtejckkgpjcbfpaaDoor
