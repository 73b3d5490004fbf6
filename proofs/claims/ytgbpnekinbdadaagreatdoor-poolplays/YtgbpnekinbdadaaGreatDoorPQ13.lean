/-
  Texts Bm1 of the proof.
-/
import Derived.Deep.OwnRows
import Derived.Deep.RegionWith
import Derived.Laws.Bits128
import Derived.Shelf.Spec.TrailingZeros
import Derived.Test.YtgbpnekinbdadaaGreatDoorPQ1
import Derived.Test.YtgbpnekinbdadaaGreatDoorPQ12
import Derived.Test.YtgbpnekinbdadaaGreatDoorProg

namespace Go.Proofs.YtgbpnekinbdadaaGreatDoor
open Go.ChangeShapes Go.WideShapes Go.ChangeAt Go.RowKit
set_option linter.unusedVariables false
set_option linter.unusedSimpArgs false

set_option maxHeartbeats 1000000 in
theorem ones_i (x x1 x2 x3 x4 x5 x6 r : Int) (w : World)
  (h1 : IntKind.u64.wrap (bits BinOp.and IntKind.u64 (x / 2) 6148914691236517205 + bits BinOp.and IntKind.u64 x 6148914691236517205) = x1)
  (h2 : IntKind.u64.wrap (bits BinOp.and IntKind.u64 (x1 / 4) 3689348814741910323 + bits BinOp.and IntKind.u64 x1 3689348814741910323) = x2)
  (h3 : bits BinOp.and IntKind.u64 (IntKind.u64.wrap (x2 / 16 + x2)) 1085102592571150095 = x3)
  (h4 : IntKind.u64.wrap (x3 + x3 / 256) = x4)
  (h5 : IntKind.u64.wrap (x4 + x4 / 65536) = x5)
  (h6 : IntKind.u64.wrap (x5 + x5 / 4294967296) = x6)
  (h7 : bits BinOp.and IntKind.i64 (wrap64 x6) 127 = r) :
  Calls Tryz.prog 98 #[.int .u64 x] w fun e w' => e = .returned (.int .i64 r) ∧ w' = w := by
 go_enter Tryz.func98, Tryz.ntmps98
 go_wp2_with (simp only [h1, h2, h3, h4, h5, h6, h7])
 go_ret
 exact ⟨by rw [← h7]; rfl, rfl⟩

theorem u64_nat {n : Nat} (h : n < 18446744073709551616) {i : Int} (e : i = (n : Int)) : IntKind.u64.wrap i = (n : Int) := by
 rw [e, IntKind.wrap_u64]; omega

theorem and_nat {a b : Nat} (ha : a < 18446744073709551616) (hb : b < 18446744073709551616) (i j : Int) (e : i = (a : Int)) (f : j = (b : Int)) : bits BinOp.and IntKind.u64 i j = ((a &&& b : Nat) : Int) := by
 rw [e, f]; exact bits_and_u64_nat a b ha hb

theorem oc_h1 {x : Nat} (hx : x < 18446744073709551616) (p1 : oc1 x < 18446744073709551616) : IntKind.u64.wrap (bits BinOp.and IntKind.u64 ((x : Int) / 2) 6148914691236517205 + bits BinOp.and IntKind.u64 (x : Int) 6148914691236517205) = (oc1 x : Int) := by
 refine u64_nat p1 ?_
 rw [and_nat (a := x / 2) (b := 6148914691236517205) (by omega) (by decide) ((x : Int) / 2) 6148914691236517205 (by omega) rfl, and_nat (a := x) (b := 6148914691236517205) hx (by decide) (x : Int) 6148914691236517205 rfl rfl]
 unfold oc1; omega

theorem oc_h2 {x : Nat} (hx : x < 18446744073709551616) (p1 : oc2 x < 18446744073709551616) : IntKind.u64.wrap (bits BinOp.and IntKind.u64 ((x : Int) / 4) 3689348814741910323 + bits BinOp.and IntKind.u64 (x : Int) 3689348814741910323) = (oc2 x : Int) := by
 refine u64_nat p1 ?_
 rw [and_nat (a := x / 4) (b := 3689348814741910323) (by omega) (by decide) ((x : Int) / 4) 3689348814741910323 (by omega) rfl, and_nat (a := x) (b := 3689348814741910323) hx (by decide) (x : Int) 3689348814741910323 rfl rfl]
 unfold oc2; omega

theorem oc_h3 {x : Nat} (p3 : x / 16 + x < 18446744073709551616) : bits BinOp.and IntKind.u64 (IntKind.u64.wrap ((x : Int) / 16 + (x : Int))) 1085102592571150095 = (oc3 x : Int) := by
 rw [u64_nat (n := x / 16 + x) p3 (by omega)]
 exact and_nat (b := 1085102592571150095) p3 (by decide) _ 1085102592571150095 rfl rfl

/-- OnesCount64, every word. -/
theorem ones_w (x : Nat) (hx : x < 18446744073709551616) (w : World) :
  Calls Tryz.prog 98 #[.int .u64 x] w fun e w' => e = .returned (.int .i64 (pc x)) ∧ w' = w := by
 obtain ⟨a, b, c, d, e, f, g, h, e3, hs, ha, hb, hc, hd, he, hf, hg, hh, p1, p2, p3⟩ := oc_eight hx
 obtain ⟨y, z, u, hy, hz, hu, q1, q2, q3, q4, q5⟩ := oc_last e3 hs ha hb hc hd he hf hg hh
 refine ones_i x (oc1 x) (oc2 (oc1 x)) (oc3 (oc2 (oc1 x))) y z u (pc x) w (oc_h1 hx p1) (oc_h2 p1 p2) (oc_h3 p3) ?_ ?_ ?_ ?_
 ·exact u64_nat (n := y) (by omega) (by omega)
 ·exact u64_nat (n := z) (by omega) (by omega)
 ·exact u64_nat (n := u) (by omega) (by omega)
 ·rw [i64_and127]
  have e : wrap64 (u : Int) = u := by have := IntKind.wrap_i64 (u : Int); simp [wrap64]; omega
  rw [e]; omega

set_option maxHeartbeats 1000000 in
theorem tz_core (x k idx : Nat) (w : World) (hx0 : ((x : Int) == 0) = false)
  (key : IntKind.u64.wrap (bits BinOp.and IntKind.u64 (x : Int) (IntKind.u64.wrap (-(x : Int))) * 285870213051353865) / 288230376151711744 = (idx : Int))
  (hi : idx < 64) (hk : k < 64) (hcell : w.cell? ⟨2, idx, none⟩ = some (.int .u8 k)) :
  Calls Tryz.prog 158 #[.int .u64 x] w fun e w' => e = .returned (.int .i64 k) ∧ w' = w := by
 go_enter Tryz.func158, Tryz.ntmps158
 go_wp2_with (simp only [key])
 go_ret
 exact ⟨rfl, rfl⟩

/-- TrailingZeros64 of a word that isn't nought. -/
theorem tz_w (x : Nat) (hx : x < 18446744073709551616) (hx0 : x ≠ 0) (w : World) (hT : TabAt 2 Lib.deBruijn64tab w) :
  Calls Tryz.prog 158 #[.int .u64 x] w fun e w' => e = .returned (.int .i64 (Lib.ctz 64 x)) ∧ w' = w := by
 obtain ⟨hlow, hk⟩ := Lib.lowest_bit 64 x hx0 hx
 obtain ⟨hi, htab⟩ := Lib.deBruijn64_at _ hk
 have hcell := hT _ hi
 rw [htab] at hcell
 exact tz_core x _ _ w (by simp; omega) (tz64_key x _ hx hx0 hlow) hi hk hcell

/-- A map that lies at a, its words at g. -/
structure MapAt (W : World) (a g n : Nat) (ws : List Nat) : Prop where
 head : Blk W a #[.int .i64 n, .slice (some ⟨g, 0, none⟩) ws.length ws.length] 122
 row : Blk W g (ws.map (fun x : Nat => Value.int .u64 (x : Int))).toArray 22
 len : ws.length = (n + 63) / 64
 small : n ≤ 65536
 word : ∀ x, x ∈ ws → x < 18446744073709551616

theorem size_nil (w : World) : Calls Tryz.prog 49 #[.pointer none] w fun e w' => e = .returned (.int .i64 0) ∧ w' = w := by
 go_enter Tryz.func49, Tryz.ntmps49
 go_wp2
 go_ret
 exact ⟨rfl, rfl⟩

theorem size_c (a : Nat) (n : Int) (w : World) (hc : w.cell? ⟨a, 0, none⟩ = some (.int .i64 n)) : Calls Tryz.prog 49 #[.pointer (some ⟨a, 0, none⟩)] w fun e w' => e = .returned (.int .i64 n) ∧ w' = w := by
 go_enter Tryz.func49, Tryz.ntmps49
 go_wp2
 go_ret
 exact ⟨rfl, rfl⟩

theorem reach_nil (i : Int) (w : World) : Calls Tryz.prog 106 #[.pointer none, .int .i64 i] w fun e w' => e = .returned (.bool false) ∧ w' = w := by
 go_enter Tryz.func106, Tryz.ntmps106
 go_wp2_with (go_at_call 49; refine (size_nil w).mono ?_; rintro e w1 ⟨rfl, rfl⟩)
 all_goals go_ret
 all_goals refine ⟨?_, rfl⟩
 all_goals simp
 all_goals omega

theorem reach_c (a : Nat) (n i : Int) (w : World) (hc : w.cell? ⟨a, 0, none⟩ = some (.int .i64 n)) : Calls Tryz.prog 106 #[.pointer (some ⟨a, 0, none⟩), .int .i64 i] w fun e w' => e = .returned (.bool (decide (0 ≤ i ∧ i < n))) ∧ w' = w := by
 go_enter Tryz.func106, Tryz.ntmps106
 go_wp2_with (go_at_call 49; refine (size_c a n w hc).mono ?_; rintro e w1 ⟨rfl, rfl⟩)
 all_goals go_ret
 all_goals refine ⟨?_, rfl⟩
 all_goals simp
 all_goals omega

theorem fill1_w (x y : Int) (w : World) : Calls Tryz.prog 160 #[.int .u64 x, .int .u64 y] w fun e w' => e = .returned (.int .u64 (bits .or .u64 x y)) ∧ w' = w := by
 go_enter Tryz.func160, Tryz.ntmps160
 go_wp2
 go_ret
 exact ⟨rfl, rfl⟩

theorem clear1_w (x y : Int) (w : World) : Calls Tryz.prog 162 #[.int .u64 x, .int .u64 y] w fun e w' => e = .returned (.int .u64 (bits .andNot .u64 x y)) ∧ w' = w := by
 go_enter Tryz.func162, Tryz.ntmps162
 go_wp2
 go_ret
 exact ⟨rfl, rfl⟩

theorem infoU64 : (Tryz.prog.info? 22).map (fun i => (i.zero, i.size, i.bytes)) = some (some (.int .u64 0), 1, 8) := by kernel_rfl

theorem new_w (n : Nat) (hn : n ≤ 65536) (w : World) : Calls Tryz.prog 47 #[.int .i64 n] w fun e w' =>
  e = .returned (.tuple #[.pointer (some ⟨w.heap.size + 1, 0, none⟩), .int .i64 0]) ∧ MapAt w' (w.heap.size + 1) w.heap.size n (List.replicate ((n + 63) / 64) 0) ∧ Below w.heap.size w w' ∧ w'.heap.size = w.heap.size + 2 := by
 go_enter Tryz.func47, Tryz.ntmps47
 have h0 : ¬ ((n : Int) < 0) := by omega
 have h1 : ¬ ((n : Int) > 65536) := by omega
 obtain ⟨k, hk⟩ : ∃ k : Nat, k = (n + 63) / 64 := ⟨_, rfl⟩
 have hq : ((n : Int) + 64 - 1) / 64 = (k : Int) := by omega
 have hmk : ∀ w, (Instr.makeSlice 120 (.int .i64 (((n : Int) + 64 - 1) / 64)) (.int .i64 (((n : Int) + 64 - 1) / 64))).run Tryz.prog w = .ok (.slice (some ⟨w.heap.size, 0, none⟩) k k) (w.alloc (.cells (madeCells #[.int .u64 0] k) 22)) := fun w => by
  rw [hq]
  exact run_make_row' (P := Tryz.prog) 120 22 (.int .u64 0) 8 Tryz.underlying120 infoU64 rfl .i64 .i64 k (by omega) (by omega) w
 clear hq
 go_wp2
 go_ret2
 refine ⟨rfl, ⟨?_, ?_, ?_, hn, ?_⟩, by repeat (first | with_reducible exact Below.refl _ _ | with_reducible refine Below.drew ?_ | with_reducible refine Below.alloc ?_ (by first | omega | (simp <;> omega)) _ | with_reducible refine Below.setCell ?_ (by first | omega | (simp <;> omega)) _), ?_⟩
 ·rw [List.length_replicate, ← hk]
  have e := Blk.new (w.alloc (.cells (madeCells #[.int .u64 0] k) 22)) #[.int .i64 n, .slice (some ⟨w.heap.size, 0, none⟩) k k] 122
  rw [show (w.alloc (.cells (madeCells #[.int .u64 0] k) 22)).heap.size = w.heap.size + 1 by simp] at e
  exact e
 ·rw [← hk]
  refine Blk.alloc ?_ _
  have e : madeCells #[Value.int IntKind.u64 0] k = (List.map (fun x : Nat => Value.int .u64 (x : Int)) (List.replicate k 0)).toArray := by
   apply Array.ext'; rw [toList_madeCells_one]; simp
  rw [← e]
  exact Blk.new _ _ _
 ·simp
 ·intro x hx
  have := List.eq_of_mem_replicate hx
  omega
 ·simp

end Go.Proofs.YtgbpnekinbdadaaGreatDoor
