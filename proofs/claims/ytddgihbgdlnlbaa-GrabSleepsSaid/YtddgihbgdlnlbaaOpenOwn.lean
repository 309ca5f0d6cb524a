/-
  A parameter api.Own, opened.
-/
import Derived.Test.YtddgihbgdlnlbaaFields
import Derived.Test.YtddgihbgdlnlbaaGrabLook
namespace Go.Proofs.Ytddgihbgdlnlbaa
open Go.ChangeShapes Go.WideShapes Go.ChangeAt Go.RowKit Go.Deep

namespace P14
theorem array5 {α : Type} {cs : Array α} (h : cs.size = 5) : ∃ c0 c1 c2 c3 c4, cs = #[c0, c1, c2, c3, c4] := by
  obtain ⟨l⟩ := cs
  match l, h with
  | [c0, c1, c2, c3, c4], _ => exact ⟨c0, c1, c2, c3, c4, rfl⟩
/-- A number that an int holds. -/
def B64 (v : Int) : Prop := -9223372036854775808 ≤ v ∧ v ≤ 9223372036854775807
theorem open_own {H : Type} {enc : TypeId × Value → H} {W : World} {base : Nat} {sp : Nat → Bool} {v : Value} {d : DataW H} {ps : List MemPlace}
    (hval : Value.okWide Try.prog W .any base 23 v) (h : DataW.Trod enc Try.prog W 0 sp true 23 v d ps) :
    ∃ (s : Int) (t k : Bool) (r o : Int), v = ov s t k r o ∧ B64 s ∧ B64 r ∧ B64 o := by
  obtain ⟨cs, rfl, hsz, hf⟩ := open_fields Try.underlying23 (by kernel_rfl) (by kernel_rfl) hval h
  obtain ⟨c0, c1, c2, c3, c4, rfl⟩ := array5 hsz
  obtain ⟨_, _, n0, e0, t0⟩ := hf 0 _ rfl
  obtain ⟨_, _, n1, e1, t1⟩ := hf 1 _ rfl
  obtain ⟨_, _, n2, e2, t2⟩ := hf 2 _ rfl
  obtain ⟨_, _, n3, e3, t3⟩ := hf 3 _ rfl
  obtain ⟨_, _, n4, e4, t4⟩ := hf 4 _ rfl
  cases e0; cases e1; cases e2; cases e3; cases e4
  obtain ⟨s, hs, -, ws⟩ := DataW.trod_int Try.underlying3 t0
  obtain ⟨t, ht, -⟩ := DataW.trod_bool Try.underlying4 t1
  obtain ⟨k, hk, -⟩ := DataW.trod_bool Try.underlying4 t2
  obtain ⟨r, hr, -, wr⟩ := DataW.trod_int Try.underlying3 t3
  obtain ⟨o, ho, -, wo⟩ := DataW.trod_int Try.underlying3 t4
  cases hs; cases ht; cases hk; cases hr; cases ho
  exact ⟨s, t, k, r, o, rfl, wfb ws, wfb wr, wfb wo⟩
end P14
end Go.Proofs.Ytddgihbgdlnlbaa
