/-
  Texts SeG of the proof.
-/
import Derived.Test.YtllidkflgjjkfaaGreatDoorC39
import Derived.Test.YtllidkflgjjkfaaGreatDoorC43

namespace Go.Proofs.YtllidkflgjjkfaaGreatDoor
open Go.ChangeShapes Go.WideShapes Go.ChangeAt Go.RowKit
set_option linter.unusedVariables false
set_option linter.unusedSimpArgs false

theorem bg_start (w : World) (v : Bool) (h l b : Int) (u : Bool) (qh ql c : Int) : Kn w [(w.heap.size + 1, [.bool u, .int .u64 qh, .int .u64 ql, .int .i64 c], 28), (w.heap.size, [.bool v, .int .u64 h, .int .u64 l, .int .i64 b], 28)] ((w.alloc (.cells #[.bool v, .int .u64 h, .int .u64 l, .int .i64 b] 28)).alloc (.cells #[.bool u, .int .u64 qh, .int .u64 ql, .int .i64 c] 28)) :=
  ((Kn.nil w).push rfl).push (by simp)

end Go.Proofs.YtllidkflgjjkfaaGreatDoor
