/-
  The law's example, and the walks of BitmapNil and BitmapGreat.
-/
import Derived.Test.YtkfglbmhpdcfpaaDoorBm10
namespace Go.Proofs.YtkfglbmhpdcfpaaDoor
open Go.ChangeShapes Go.WideShapes Go.ChangeAt Go.RowKit
set_option linter.unusedVariables false
set_option linter.unusedSimpArgs false

theorem But.to {b B g : Nat} {w W W' : World} (k : But [g] B W W') (h : Below b w W) (hg : b ≤ g) (hB : b ≤ B) : Below b w W' :=
  ⟨k.os.trans h.os, k.tape.trans h.tape, k.output.trans h.output, Nat.le_trans h.size k.size, fun i hi => (k.block i (by omega) (by simp; omega)).trans (h.block i hi)⟩

/-- New, as bits. -/
theorem new_b (n : Nat) (hn : n ≤ 65536) (w : World) : Calls Tryd.prog 17 #[.int .i64 n] w fun e w' =>
    e = .returned (.tuple #[.pointer (some ⟨w.heap.size + 1, 0, none⟩), .int .i64 0]) ∧ MapB w' (w.heap.size + 1) w.heap.size n (fun _ => false) ∧ Below w.heap.size w w' ∧ w'.heap.size = w.heap.size + 2 := by
  refine (new_w n hn w).mono ?_
  rintro e w' ⟨rfl, hm, hb, hs⟩
  refine ⟨rfl, ⟨⟨_, hm, fun p => ?_⟩, fun _ _ => rfl⟩, hb, hs⟩
  unfold bitL
  rw [List.getD_eq_getElem?_getD, List.getElem?_replicate]
  split <;> simp

theorem copy_nil (w : World) : Calls Tryd.prog 35 #[.pointer none] w fun e w' => e = .returned (.pointer none) ∧ Below w.heap.size w w' := by
  go_enter Tryd.func35, Tryd.ntmps35
  go_wp2
  go_ret
  exact ⟨rfl, by repeat (first | with_reducible exact Below.refl _ _ | with_reducible refine Below.drew ?_ | with_reducible refine Below.alloc ?_ (by first | omega | (simp <;> omega)) _ | with_reducible refine Below.setCell ?_ (by first | omega | (simp <;> omega)) _)⟩

theorem bytes_nil (w : World) : Calls Tryd.prog 27 #[.pointer none] w fun e w' => e = .returned (.string ⟨#[]⟩) ∧ Below w.heap.size w w' := by
  go_enter Tryd.func27, Tryd.ntmps27
  go_wp2
  go_ret
  exact ⟨rfl, by repeat (first | with_reducible exact Below.refl _ _ | with_reducible refine Below.drew ?_ | with_reducible refine Below.alloc ?_ (by first | omega | (simp <;> omega)) _ | with_reducible refine Below.setCell ?_ (by first | omega | (simp <;> omega)) _)⟩

set_option maxHeartbeats 1000000 in
theorem bawake_c (w : World) (hT : TB w) : Calls Tryd.prog 16 #[] w fun e w' => e = .returned (.bool true) ∧ Below w.heap.size w w' := by
  have NH := hide (new_b 3 (by decide) w)
  have TH := hide hT
  clear hT
  go_enter Tryd.func16, Tryd.ntmps16
  go_wp2_with fail
  refine NH.out.mono ?_
  rintro e w1 ⟨rfl, hM, hb, hs⟩
  have P1 := hide (put_new _ _ 3 1 _ (by decide) rfl w1 hM)
  have B1 := hide hb
  clear hM hb NH hs
  go_wp2_with fail
  refine P1.out.mono ?_
  rintro e w2 ⟨rfl, hM, hK⟩
  have B2 := hide (hK.to B1.out (Nat.le_refl _) B1.out.size)
  have N1 := next_ok _ _ 3 _ 1 (by decide) (by decide) (by decide) w2 hM (TH.out.below B2.out)
  rw [show nxP (upd (fun _ => false) 1 true) 3 ((1 : Int).toNat % 3) = 2 by decide, show nxB (upd (fun _ => false) 1 true) 3 ((1 : Int).toNat % 3) = true by decide] at N1
  have N1H := hide N1
  have MH := hide hM
  clear P1 B1 hM hK N1
  go_wp2_with fail
  refine N1H.out.mono ?_
  rintro e w3 ⟨rfl, hb⟩
  have hM := MH.out.below hb
  have B3 := hide (B2.out.trans (hb.mono B2.out.size))
  have P2 := hide (put_new _ _ 3 2 _ (by decide) (by decide) w3 hM)
  clear N1H MH hb B2 hM
  go_wp2_with fail
  refine P2.out.mono ?_
  rintro e w4 ⟨rfl, hM, hK⟩
  have B4 := hide (hK.to B3.out (Nat.le_refl _) B3.out.size)
  have N2 := next_ok _ _ 3 _ 1 (by decide) (by decide) (by decide) w4 hM (TH.out.below B4.out)
  rw [show nxP (upd (upd (fun _ => false) 1 true) 2 true) 3 ((1 : Int).toNat % 3) = 0 by decide, show nxB (upd (upd (fun _ => false) 1 true) 2 true) 3 ((1 : Int).toNat % 3) = true by decide] at N2
  have N2H := hide N2
  clear P2 B3 hM hK N2
  go_wp2_with fail
  refine N2H.out.mono ?_
  rintro e w5 ⟨rfl, hb⟩
  have B5 := hide (B4.out.trans (hb.mono B4.out.size))
  clear N2H B4 hb TH
  go_wp2_with fail
  go_ret
  exact ⟨rfl, B5.out⟩

/-- A call that leaves what was there. -/
theorem next_bel {w W W' : World} (h : Below w.heap.size w W) (k : Below W.heap.size W W') : Below w.heap.size w W' := h.trans (k.mono h.size)

set_option maxHeartbeats 1000000 in
theorem nil_walk (i : Int) (w : World) (hT : TB w) : Calls Tryd.prog 9 #[.int .i64 i] w fun e w' => e = .returned (.bool true) ∧ Below w.heap.size w w' := by
  have AW := hide (bawake_c w hT)
  clear hT
  go_enter Tryd.func9, Tryd.ntmps9
  go_wp2_with fail
  refine AW.out.mono ?_
  rintro e w1 ⟨rfl, hb⟩
  have B := hide hb
  clear hb AW
  go_wp2_with fail
  refine (fill_nil i i _).mono ?_
  rintro e w2 ⟨rfl, hb⟩
  replace B := hide (next_bel B.out hb)
  clear hb
  go_wp2_with fail
  refine (clear_nil i i _).mono ?_
  rintro e w3 ⟨rfl, hb⟩
  replace B := hide (next_bel B.out hb)
  clear hb
  go_wp2_with fail
  refine (next_nil i _).mono ?_
  rintro e w4 ⟨rfl, hb⟩
  replace B := hide (next_bel B.out hb)
  clear hb
  go_wp2_with fail
  refine (put_nil i _).mono ?_
  rintro e w5 ⟨rfl, hb⟩
  replace B := hide (next_bel B.out hb)
  clear hb
  go_wp2_with fail
  refine (drop_nil i _).mono ?_
  rintro e w6 ⟨rfl, hb⟩
  replace B := hide (next_bel B.out hb)
  clear hb
  go_wp2_with fail
  refine (has_nil i _).mono ?_
  rintro e w7 ⟨rfl, hb⟩
  replace B := hide (next_bel B.out hb)
  clear hb
  go_wp2_with fail
  refine (size_nil _).mono ?_
  rintro e w8 ⟨rfl, rfl⟩
  go_wp2_with fail
  refine (count_nil _).mono ?_
  rintro e w9 ⟨rfl, hb⟩
  replace B := hide (next_bel B.out hb)
  clear hb
  go_wp2_with fail
  refine (copy_nil _).mono ?_
  rintro e w10 ⟨rfl, hb⟩
  replace B := hide (next_bel B.out hb)
  clear hb
  go_wp2_with fail
  refine (bytes_nil _).mono ?_
  rintro e w11 ⟨rfl, hb⟩
  replace B := hide (next_bel B.out hb)
  clear hb
  go_wp2_with fail
  go_ret
  exact ⟨rfl, B.out⟩

end Go.Proofs.YtkfglbmhpdcfpaaDoor
