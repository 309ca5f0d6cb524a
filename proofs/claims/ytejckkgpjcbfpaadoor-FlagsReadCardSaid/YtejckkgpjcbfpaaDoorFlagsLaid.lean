/-
  The start: what the listed tables and errors hold, a world in which they do, and flags as an argument.
-/
import Derived.Test.YtejckkgpjcbfpaaDoorFlagsLib
import Derived.Test.YtejckkgpjcbfpaaDoorEnds
import Derived.Stop.LaidErr
import Derived.LaidLaws
import Derived.SizedLaws
import Derived.ChangeMaps5
namespace Go.Proofs.YtejckkgpjcbfpaaDoor
open Go.ChangeShapes Go.WideShapes Go.ChangeAt Go.RowKit Go.Joins
set_option linter.unusedVariables false

/-- A table's numbers as cells. -/
def tabCells : DataW Unit → Array Value
  | .agg l => (l.filterMap fun | .lit (.int k z) => some (Value.int k z) | _ => none).toArray
  | _ => #[]
abbrev synS : ByteArray := { data := #[105, 110, 118, 97, 108, 105, 100, 32, 115, 121, 110, 116, 97, 120] }
abbrev rngS : ByteArray := { data := #[118, 97, 108, 117, 101, 32, 111, 117, 116, 32, 111, 102, 32, 114, 97, 110, 103, 101] }
noncomputable def low : Nat := (World.holding Tryd.prog default ⟨#[], #[], []⟩).heap.size
/-- A block with other cells. -/
def putCells (cs : Array Value) : Obj → Obj
  | .cells _ t frozen => .cells cs t frozen
  | o => o
/-- The settled world, with the two errors and the three tables as their texts lay them. -/
noncomputable def laidWorld (os : Os) : World :=
  let w0 := World.holding Tryd.prog os ⟨#[.cells #[.string synS] 83, .cells #[.string rngS] 83], #[], []⟩
  { w0 with heap := ((((w0.heap.modify 0 (putCells #[.iface 81 (.pointer (some ⟨low, 0, none⟩))])).modify 1 (putCells #[.iface 81 (.pointer (some ⟨low + 1, 0, none⟩))])).modify 2 (putCells (tabCells Rows.laid_internal_strconv_uint64pow10))).modify 3 (putCells (tabCells Rows.laid_math_bits_deBruijn32tab))).modify 4 (putCells (tabCells Rows.laid_math_bits_deBruijn64tab)) }

/-- The rows' two lists. -/
def laid3 : List (String × DataW Unit) := [("math/bits.deBruijn32tab", Rows.laid_math_bits_deBruijn32tab), ("math/bits.deBruijn64tab", Rows.laid_math_bits_deBruijn64tab), ("internal/strconv.uint64pow10", Rows.laid_internal_strconv_uint64pow10)]
def laid5 : List (String × DataW Unit) := [("math/bits.deBruijn32tab", Rows.laid_math_bits_deBruijn32tab), ("math/bits.deBruijn64tab", Rows.laid_math_bits_deBruijn64tab), ("internal/strconv.uint64pow10", Rows.laid_internal_strconv_uint64pow10), ("strconv.ErrRange", Rows.laid_strconv_ErrRange), ("strconv.ErrSyntax", Rows.laid_strconv_ErrSyntax)]

set_option maxRecDepth 100000 in
theorem laidWorld_met3 (os : Os) (args : Array Value) : laidMetH Tryd.prog laid3 ((laidWorld os).forCall (fun _ _ => 0) ⟨#[], args, []⟩).memory :=
  show laidMet Tryd.prog laid3 _ from laidMet_of_run' 8 (by kernel_rfl) (by kernel_rfl)
set_option maxRecDepth 100000 in
theorem laidWorld_met5 (os : Os) (args : Array Value) : laidMetH Tryd.prog laid5 ((laidWorld os).forCall (fun _ _ => 0) ⟨#[], args, []⟩).memory :=
  show laidMet Tryd.prog laid5 _ from laidMet_of_run' 8 (by kernel_rfl) (by kernel_rfl)

theorem tab_of {rest : List (String × DataW Unit)} {W : World} (h : laidMet Tryd.prog (("internal/strconv.uint64pow10", Rows.laid_internal_strconv_uint64pow10) :: rest) W) : Tab W :=
  Lib.tabIs_of_head (g := 2) (t := 75) (by kernel_rfl) (by kernel_rfl) Tryd.underlying75 Tryd.underlying61 (by kernel_rfl) (by kernel_rfl) h
theorem tab3 {W : World} (h : laidMetH Tryd.prog laid3 W) : Tab W :=
  tab_of (laidMet.tail (laidMet.tail (show laidMet Tryd.prog laid3 W from h)))
theorem tab5 {W : World} (h : laidMetH Tryd.prog laid5 W) : Tab W :=
  tab_of (laidMet.tail (laidMet.tail (show laidMet Tryd.prog laid5 W from h)))

theorem star : "*" ++ "errors.errorString" = "*errors.errorString" := by decide
theorem rowErr (u : TypeId) (h : Tryd.prog.typeName? 3 u = some "*errors.errorString") : u = 81 :=
  typeName_ptr_named (nm := "errors.errorString") (by rw [star]; kernel_rfl) (by kernel_rfl) (by decide) u (by rw [star]; exact h)
theorem errs5 {W : World} (h : laidMetH Tryd.prog laid5 W) : Errs W := by
  have h0 : laidMet Tryd.prog laid5 W := h
  obtain ⟨a1, s1, h1, -, -, -⟩ := laid_sentinel h0.tail.tail.tail (by kernel_rfl : Tryd.prog.globalNamed "strconv.ErrRange" = some 1) (by kernel_rfl) Tryd.underlying48 rowErr Tryd.underlying81 Tryd.underlying83 rfl rfl Tryd.underlying9 (by kernel_rfl) (by kernel_rfl)
  obtain ⟨a2, s2, h2, -, -, -⟩ := laid_sentinel h0.tail.tail.tail.tail (by kernel_rfl : Tryd.prog.globalNamed "strconv.ErrSyntax" = some 0) (by kernel_rfl) Tryd.underlying48 rowErr Tryd.underlying81 Tryd.underlying83 rfl rfl Tryd.underlying9 (by kernel_rfl) (by kernel_rfl)
  exact ⟨⟨_, _, h2⟩, ⟨_, _, h1⟩⟩

/-- A parameter api.Flags, opened. -/
theorem open_flags {H : Type} {enc : TypeId × Value → H} {W : World} {base : Nat} {sp : Nat → Bool} {v : Value} {d : DataW H} {ps : List MemPlace}
    (hval : Value.okWide Tryd.prog W .any base 23 v) (h : DataW.Trod enc Tryd.prog W 0 sp true 23 v d ps) :
    ∃ (a b c : Bool) (n : Int), v = fl a b c n ∧ (-9223372036854775808 ≤ n ∧ n ≤ 9223372036854775807) := by
  obtain ⟨v0, v1, v2, v3, y0, y1, y2, y3, k, rfl, rfl, rfl, t0, t1, t2, t3⟩ := open_agg4 Tryd.underlying23 (by kernel_rfl) (by kernel_rfl) hval h
  obtain ⟨a, ha, -⟩ := DataW.trod_bool Tryd.underlying4 t0
  obtain ⟨b, hb, -⟩ := DataW.trod_bool Tryd.underlying4 t1
  obtain ⟨c, hc, -⟩ := DataW.trod_bool Tryd.underlying4 t2
  obtain ⟨n, hn, -, hw⟩ := DataW.trod_int Tryd.underlying3 t3
  cases ha
  cases hb
  cases hc
  cases hn
  exact ⟨a, b, c, n, rfl, wfb hw⟩
end Go.Proofs.YtejckkgpjcbfpaaDoor
