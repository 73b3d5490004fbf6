/-
  Texts BmC of the proof.
-/
import Derived.Laws.CopyOwn
import Derived.Laws.CopyRow
import Derived.Test.YtgbpnekinbdadaaGreatDoorPQ16

namespace Go.Proofs.YtgbpnekinbdadaaGreatDoor
open Go.ChangeShapes Go.WideShapes Go.ChangeAt Go.RowKit
set_option linter.unusedVariables false
set_option linter.unusedSimpArgs false

theorem copy_run (k : Nat) (ws : List Nat) (hk : ws.length = k) {d g : Nat} (W : World) (hd : Blk W d ((List.replicate k 0).map (fun x : Nat => Value.int .u64 (x : Int))).toArray 22) (hg : Blk W g (ws.map (fun x : Nat => Value.int .u64 (x : Int))).toArray 22) :
  (Builtin.copy_ #[120, 120] 3 #[.slice (some ⟨d, 0, none⟩) k k, .slice (some ⟨g, 0, none⟩) k k]).run Tryz.prog W = .ok (goInt k) (W.setRow d (ws.map (fun x : Nat => Value.int .u64 (x : Int))).toArray) := by
 have e := run_copy_row Tryz.prog W 120 120 3 22 d 0 k k ⟨g, 0, none⟩ k k _ 22 (ws.map (fun x : Nat => Value.int .u64 (x : Int))) Tryz.underlying120 (by kernel_rfl) hd (by simp [hk, Nat.min_def]) (fun j v hj => by
  have : (⟨g, 0, none⟩ : Addr).add j = ⟨g, j, none⟩ := by unfold Addr.add; split <;> simp_all
  rw [this, hg.cell j]
  simpa using hj) (by simp [hk]) (by intro v hv; simp at hv; obtain ⟨x, _, rfl⟩ := hv; rfl)
 rw [e]
 simp [hk]

set_option maxHeartbeats 1000000 in
theorem copy_core (a g n k : Nat) (ws : List Nat) (hk : ws.length = k) (hn : n ≤ 65536) (hkn : k = (n + 63) / 64) (w : World) (hc : w.cell? ⟨a, 0, none⟩ = some (.int .i64 n)) (h1 : w.cell? ⟨a, 1, none⟩ = some (.slice (some ⟨g, 0, none⟩) k k)) (ha : a < w.heap.size) (hg : Blk w g (ws.map (fun x : Nat => Value.int .u64 (x : Int))).toArray 22) :
  Calls Tryz.prog 100 #[.pointer (some ⟨a, 0, none⟩)] w fun e w' => e = .returned (.pointer (some ⟨w.heap.size + 1, 0, none⟩)) ∧
   Blk w' (w.heap.size + 1) #[.int .i64 n, .slice (some ⟨w.heap.size, 0, none⟩) k k] 122 ∧ Blk w' w.heap.size (ws.map (fun x : Nat => Value.int .u64 (x : Int))).toArray 22 ∧ Below w.heap.size w w' ∧ w'.heap.size = w.heap.size + 2 := by
 have NW := hide (new_w n hn w)
 rw [← hkn] at NW
 have HG := hide hg
 clear hg hkn
 go_enter Tryz.func100, Tryz.ntmps100
 go_wp2_with fail
 refine NW.out.mono ?_
 rintro e w1 ⟨rfl, hM, hb, hs⟩
 have g1 := HG.out.below hb
 have c1 := (hb.cell (p := ⟨a, 1, none⟩) ha).trans h1
 have m1 := hM.head.cell 1
 rw [List.length_replicate] at m1
 simp at m1
 have MH := hide hM
 have BH := hide hb
 have GH := hide g1
 have SH := hide hs
 have hsz : w.heap.size + 1 < w1.heap.size := by omega
 clear NW hM hb g1 hs HG h1 hc
 obtain ⟨row, hrow⟩ : ∃ row, (ws.map (fun x : Nat => Value.int .u64 (x : Int))).toArray = row := ⟨_, rfl⟩
 have cp := fun (W : World) (hW : W.heap = w1.heap) => copy_run k ws hk W (show Blk W w.heap.size _ _ by unfold Blk; rw [hW]; exact MH.out.row) (show Blk W g _ _ by unfold Blk; rw [hW]; exact GH.out)
 rw [hrow] at cp
 have cp1 := cp w1 rfl
 have cp2 := cp w1.drew rfl
 have RH := hide hrow
 clear cp hrow
 go_upto_region 4 with fail
 go_region
 all_goals go_wp2_with fail
 all_goals go_ret
 all_goals
  refine ⟨rfl, ?_, ?_, ?_, ?_⟩
  ·have e := MH.out.head
   rw [List.length_replicate] at e
   exact (setRow_other _ _ _ _ (by omega)).trans e
  ·rw [RH.out]
   exact setRow_heap _ _ _ _ _ _ MH.out.row
  ·exact below_setRow (by first | with_reducible exact BH.out | exact BH.out.drew) (Nat.le_refl _) _
  ·rw [size_setRow]
   exact SH.out

theorem copy_ok (a g n : Nat) (f : Nat → Bool) (w : World) (H : MapB w a g n f) : Calls Tryz.prog 100 #[.pointer (some ⟨a, 0, none⟩)] w fun e w' => e = .returned (.pointer (some ⟨w.heap.size + 1, 0, none⟩)) ∧ MapB w' (w.heap.size + 1) w.heap.size n f ∧ Below w.heap.size w w' ∧ w'.heap.size = w.heap.size + 2 := by
 have hn := H.lt.2.2.2
 obtain ⟨⟨ws, hm, hb⟩, hbeh⟩ := H
 refine (copy_core a g n ws.length ws rfl hn hm.len w (hm.head.cell 0) (hm.head.cell 1) hm.head.lt hm.row).mono ?_
 rintro e w' ⟨rfl, h1, h2, h3, h4⟩
 exact ⟨rfl, ⟨⟨ws, ⟨h1, h2, hm.len, hm.small, hm.word⟩, hb⟩, hbeh⟩, h3, h4⟩

end Go.Proofs.YtgbpnekinbdadaaGreatDoor
