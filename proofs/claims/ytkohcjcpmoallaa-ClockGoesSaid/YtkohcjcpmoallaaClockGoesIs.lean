/-
  deadboltlaw04.ClockGoes: what its calls answer.
-/
import Derived.Test.YtkohcjcpmoallaaClockSpread
import Derived.Test.YtkohcjcpmoallaaEnds
namespace Go.Proofs.Ytkohcjcpmoallaa
open Go.ChangeShapes Go.WideShapes Go.ChangeAt Go.RowKit
set_option linter.unusedVariables false

/-- What the program's calls answer in this law: N, A, B, F are now, a, b, from. -/
structure GoesIs (N A B F x y p W s u v : Int) (e l : Bool) : Prop where
  t1 : ∀ w, Calls Try.prog 6 #[.int .i64 N, .int .i64 A] w fun e w' => e = .returned (.tuple #[.int .i64 x, .int .i64 0]) ∧ Gr w w'
  t2 : ∀ w, Calls Try.prog 6 #[.int .i64 x, .int .i64 B] w fun e w' => e = .returned (.tuple #[.int .i64 y, .int .i64 0]) ∧ Gr w w'
  t3 : ∀ w, Calls Try.prog 6 #[.int .i64 N, .int .i64 B] w fun e w' => e = .returned (.tuple #[.int .i64 p, .int .i64 0]) ∧ Gr w w'
  t4 : ∀ w, Calls Try.prog 6 #[.int .i64 p, .int .i64 A] w fun e w' => e = .returned (.tuple #[.int .i64 y, .int .i64 0]) ∧ Gr w w'
  l1 : ∀ w, Calls Try.prog 8 #[.int .i64 N, .int .i64 F] w fun e' w' => e' = .returned (.tuple #[.bool e, .int .i64 0]) ∧ Gr w w'
  l2 : ∀ w, Calls Try.prog 8 #[.int .i64 x, .int .i64 F] w fun e' w' => e' = .returned (.tuple #[.bool l, .int .i64 0]) ∧ Gr w w'
  s1 : ∀ w, Calls Try.prog 7 #[.int .i64 y, .int .i64 N] w fun e w' => e = .returned (.tuple #[.int .i64 s, .int .i64 0]) ∧ Gr w w'
  sp : ∀ w, Calls Try.prog 9 #[.slice (some ⟨w.heap.size, 0, none⟩) 3 3] (w.alloc (.cells #[.int .i64 N, .int .i64 F, .int .i64 y] 3)) fun e w' => e = .returned (.tuple #[.int .i64 W, .int .i64 0]) ∧ Gr w w'
  s2 : ∀ w, Calls Try.prog 7 #[.int .i64 F, .int .i64 N] w fun e w' => e = .returned (.tuple #[.int .i64 u, .int .i64 0]) ∧ Gr w w'
  s3 : ∀ w, Calls Try.prog 7 #[.int .i64 N, .int .i64 F] w fun e w' => e = .returned (.tuple #[.int .i64 v, .int .i64 0]) ∧ Gr w w'

end Go.Proofs.Ytkohcjcpmoallaa
