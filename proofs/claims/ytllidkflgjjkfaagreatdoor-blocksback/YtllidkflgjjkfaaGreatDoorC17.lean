/-
  Texts Bm8 of the proof.
-/
import Derived.Test.YtllidkflgjjkfaaGreatDoorC16

namespace Go.Proofs.YtllidkflgjjkfaaGreatDoor
open Go.ChangeShapes Go.WideShapes Go.ChangeAt Go.RowKit
set_option linter.unusedVariables false
set_option linter.unusedSimpArgs false

set_option maxHeartbeats 4000000 in
theorem count1_w (a g n k c1 c2 i x y r t : Nat) (cs : Array Value) (W : World)
    (hT : Blk W c1 #[.int .i64 t] 3) (hM : Blk W c2 #[.pointer (some ⟨a, 0, none⟩)] 92)
    (hH : Blk W a #[.int .i64 n, .slice (some ⟨g, 0, none⟩) k k] 134) (hR : Blk W g cs 22) (hi : i < k) (hk : k < 2000) (hx : cs[i]? = some (.int .u64 x))
    (hy : bits .and .u64 (x : Int) (r : Int) = (y : Int)) (hyl : y < 18446744073709551616) (ht : t < 1000000) :
    Calls Tryz.prog 106 #[.int .i64 i, .int .u64 r, .pointer (some ⟨c1, 0, none⟩), .pointer (some ⟨c2, 0, none⟩)] W fun e W' => e = .returned (.bool true) ∧
      Alike W' (W.setCell ⟨c1, 0, none⟩ (.int .i64 ((t : Int) + (pc y : Int)))) := by
  have t0 := hT.cell 0
  have t1 := hT.frozen 0
  have m0 := hM.cell 0
  have a1 := hH.cell 1
  have g0 := (hR.cell i).trans hx
  have hp := pc_le y
  have ew : IntKind.i64.wrap ((t : Int) + (pc y : Int)) = (t : Int) + (pc y : Int) := by rw [IntKind.wrap_i64]; omega
  simp at m0 a1 t0
  have hi' : (i : Int) < k := by omega
  clear hT hM hH hR hx
  go_enter Tryz.func106, Tryz.ntmps106
  go_upto_region 1 with fail
  go_region_with (go_at_call 107; refine (ones_w y hyl _).mono ?_; rintro e w1 ⟨rfl, rfl⟩)
  all_goals go_wp2_with fail
  all_goals go_ret
  all_goals exact ⟨rfl, by first | with_reducible exact Alike.drew _ | exact ⟨rfl, rfl, rfl, rfl⟩⟩

end Go.Proofs.YtllidkflgjjkfaaGreatDoor
