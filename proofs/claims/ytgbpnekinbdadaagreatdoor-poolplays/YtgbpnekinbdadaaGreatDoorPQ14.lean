/-
  Texts Bm3 of the proof.
-/
import Derived.Deep.DeepCutAuto
import Derived.Laws.BitsAllLaws
import Derived.Test.YtgbpnekinbdadaaGreatDoorPQ13

namespace Go.Proofs.YtgbpnekinbdadaaGreatDoor
open Go.ChangeShapes Go.WideShapes Go.ChangeAt Go.RowKit
set_option linter.unusedVariables false
set_option linter.unusedSimpArgs false

/-- All but what has been drawn is the same. -/
structure Alike (W V : World) : Prop where
 os : W.os = V.os
 tape : W.tape = V.tape
 output : W.output = V.output
 heap : W.heap = V.heap

theorem Blk.ne {W : World} {b c : Nat} {cs ds : Array Value} {t u : TypeId} (h : Blk W b cs t) (k : Blk W c ds u) (hne : t ≠ u) : b ≠ c := by
 rintro rfl
 unfold Blk at h k
 rw [h] at k
 simp at k
 exact hne k.2

theorem Blk.alike {W V : World} {b : Nat} {cs : Array Value} {t : TypeId} (h : Blk V b cs t) (e : Alike W V) : Blk W b cs t := by
 unfold Blk at *
 rw [e.heap]; exact h

theorem Alike.set {W V : World} (e : Alike W V) (b : Addr) (u : Value) : Alike (W.setCell b u) (V.setCell b u) :=
 ⟨e.os, e.tape, e.output, by simp only [World.setCell]; rw [e.heap]⟩

theorem Alike.trans {W V U : World} (e : Alike W V) (f : Alike V U) : Alike W U := ⟨e.os.trans f.os, e.tape.trans f.tape, e.output.trans f.output, e.heap.trans f.heap⟩

theorem Alike.drew (W : World) : Alike W.drew W := ⟨rfl, rfl, rfl, rfl⟩

theorem pc_le (x : Nat) : pc x ≤ 64 := cnt_le _ 64

set_option maxHeartbeats 4000000 in
theorem turn1_or (a g n k c1 c2 c3 i : Nat) (x y z r : Nat) (t : Nat) (cs : Array Value) (W : World)
  (hM : Blk W c1 #[.pointer (some ⟨a, 0, none⟩)] 77) (hF : Blk W c2 #[.func (.func 160) #[] #[]] 179) (hT : Blk W c3 #[.int .i64 t] 3)
  (hH : Blk W a #[.int .i64 n, .slice (some ⟨g, 0, none⟩) k k] 122) (hR : Blk W g cs 22) (hi : i < k) (hk : k < 2000) (hx : cs[i]? = some (.int .u64 x))
  (hy : bits .or .u64 (x : Int) (r : Int) = (y : Int)) (hz : bits .xor .u64 (x : Int) (y : Int) = (z : Int)) (hzl : z < 18446744073709551616) (ht : t < 1000000) :
  Calls Tryz.prog 176 #[.int .i64 i, .int .u64 r, .pointer (some ⟨c1, 0, none⟩), .pointer (some ⟨c2, 0, none⟩), .pointer (some ⟨c3, 0, none⟩)] W fun e W' => e = .returned (.bool true) ∧
   Alike W' ((W.setCell ⟨g, i, none⟩ (.int .u64 y)).setCell ⟨c3, 0, none⟩ (.int .i64 ((t : Int) + (pc z : Int)))) := by
 have n1 := hR.ne hM (by decide)
 have n2 := hR.ne hF (by decide)
 have n3 := hR.ne hT (by decide)
 have n4 := hR.ne hH (by decide)
 have q1 := hT.ne hM (by decide)
 have q4 := hT.ne hH (by decide)
 have m0 := hM.cell 0
 have f0 := hF.cell 0
 have a1 := hH.cell 1
 have g0 := (hR.cell i).trans hx
 have g1 := hR.frozen i
 have hil : i < cs.size := (Array.getElem?_eq_some_iff.1 hx).1
 have hp := pc_le z
 have ew : IntKind.i64.wrap ((t : Int) + (pc z : Int)) = (t : Int) + (pc z : Int) := by rw [IntKind.wrap_i64]; omega
 simp at m0 f0 a1
 have hi' : (i : Int) < k := by omega
 go_enter Tryz.func176, Tryz.ntmps176
 go_upto_region 2 with fail
 go_cut [8] from 16 to 25 (fun s wx => s = .int .u64 x ∧ Alike wx (W.setCell ⟨g, i, none⟩ (.int .u64 y)))
 case first =>
  go_region_with (go_at_call 160; refine (fill1_w _ _ _).mono ?_; rintro e w1 ⟨rfl, rfl⟩)
  all_goals go_wp2_with fail
  all_goals go_meet
  all_goals exact ⟨rfl, ⟨rfl, rfl, rfl, rfl⟩⟩
 case rest =>
  obtain ⟨rfl, A⟩ := hcut
  have m0' := ((hM.far n1.symm i (.int .u64 y)).alike A).cell 0
  have a1' := ((hH.far n4.symm i (.int .u64 y)).alike A).cell 1
  have t0' := ((hT.far n3.symm i (.int .u64 y)).alike A).cell 0
  have t1' := ((hT.far n3.symm i (.int .u64 y)).alike A).frozen 0
  have g0' := ((hR.put i (.int .u64 y)).alike A).cell i
  simp [hil] at m0' a1' t0' g0'
  clear m0 f0 a1 g0 g1 hM hF hT hH hR hx
  have ew' := ew
  clear ew
  go_upto_region 3 with fail
  go_region_with (go_at_call 98; refine (ones_w z hzl _).mono ?_; rintro e w1 ⟨rfl, rfl⟩)
  all_goals go_wp2_with fail
  all_goals go_ret
  all_goals exact ⟨rfl, (Alike.drew _).trans (by first | with_reducible exact A.set _ _ | (rw [ew']; exact A.set _ _))⟩

set_option maxHeartbeats 4000000 in
theorem turn1_not (a g n k c1 c2 c3 i : Nat) (x y z r : Nat) (t : Nat) (cs : Array Value) (W : World)
  (hM : Blk W c1 #[.pointer (some ⟨a, 0, none⟩)] 77) (hF : Blk W c2 #[.func (.func 162) #[] #[]] 179) (hT : Blk W c3 #[.int .i64 t] 3)
  (hH : Blk W a #[.int .i64 n, .slice (some ⟨g, 0, none⟩) k k] 122) (hR : Blk W g cs 22) (hi : i < k) (hk : k < 2000) (hx : cs[i]? = some (.int .u64 x))
  (hy : bits .andNot .u64 (x : Int) (r : Int) = (y : Int)) (hz : bits .xor .u64 (x : Int) (y : Int) = (z : Int)) (hzl : z < 18446744073709551616) (ht : t < 1000000) :
  Calls Tryz.prog 176 #[.int .i64 i, .int .u64 r, .pointer (some ⟨c1, 0, none⟩), .pointer (some ⟨c2, 0, none⟩), .pointer (some ⟨c3, 0, none⟩)] W fun e W' => e = .returned (.bool true) ∧
   Alike W' ((W.setCell ⟨g, i, none⟩ (.int .u64 y)).setCell ⟨c3, 0, none⟩ (.int .i64 ((t : Int) + (pc z : Int)))) := by
 have n1 := hR.ne hM (by decide)
 have n2 := hR.ne hF (by decide)
 have n3 := hR.ne hT (by decide)
 have n4 := hR.ne hH (by decide)
 have q1 := hT.ne hM (by decide)
 have q4 := hT.ne hH (by decide)
 have m0 := hM.cell 0
 have f0 := hF.cell 0
 have a1 := hH.cell 1
 have g0 := (hR.cell i).trans hx
 have g1 := hR.frozen i
 have hil : i < cs.size := (Array.getElem?_eq_some_iff.1 hx).1
 have hp := pc_le z
 have ew : IntKind.i64.wrap ((t : Int) + (pc z : Int)) = (t : Int) + (pc z : Int) := by rw [IntKind.wrap_i64]; omega
 simp at m0 f0 a1
 have hi' : (i : Int) < k := by omega
 go_enter Tryz.func176, Tryz.ntmps176
 go_upto_region 2 with fail
 go_cut [8] from 16 to 25 (fun s wx => s = .int .u64 x ∧ Alike wx (W.setCell ⟨g, i, none⟩ (.int .u64 y)))
 case first =>
  go_region_with (go_at_call 162; refine (clear1_w _ _ _).mono ?_; rintro e w1 ⟨rfl, rfl⟩)
  all_goals go_wp2_with fail
  all_goals go_meet
  all_goals exact ⟨rfl, ⟨rfl, rfl, rfl, rfl⟩⟩
 case rest =>
  obtain ⟨rfl, A⟩ := hcut
  have m0' := ((hM.far n1.symm i (.int .u64 y)).alike A).cell 0
  have a1' := ((hH.far n4.symm i (.int .u64 y)).alike A).cell 1
  have t0' := ((hT.far n3.symm i (.int .u64 y)).alike A).cell 0
  have t1' := ((hT.far n3.symm i (.int .u64 y)).alike A).frozen 0
  have g0' := ((hR.put i (.int .u64 y)).alike A).cell i
  simp [hil] at m0' a1' t0' g0'
  clear m0 f0 a1 g0 g1 hM hF hT hH hR hx
  have ew' := ew
  clear ew
  go_upto_region 3 with fail
  go_region_with (go_at_call 98; refine (ones_w z hzl _).mono ?_; rintro e w1 ⟨rfl, rfl⟩)
  all_goals go_wp2_with fail
  all_goals go_ret
  all_goals exact ⟨rfl, (Alike.drew _).trans (by first | with_reducible exact A.set _ _ | (rw [ew']; exact A.set _ _))⟩

end Go.Proofs.YtgbpnekinbdadaaGreatDoor
