/-
  The law's own examples hold: awake returns true.
-/
import Derived.Test.YtgbpnekinbdadaaDoorAParse
import Derived.Deep.RegionHeld
namespace Go.Proofs.YtgbpnekinbdadaaDoor
open Go.ChangeShapes Go.WideShapes Go.ChangeAt Go.RowKit
set_option linter.unusedVariables false
set_option linter.unusedSimpArgs false

/-- A block of three cells that is read. -/
def A3 (B : Nat) (a1 a2 a3 : Value) (wx : World) : Prop :=
  (wx.cell? ⟨B, 0, none⟩ = some a1 ∧ wx.cell? ⟨B, 1, none⟩ = some a2 ∧ wx.cell? ⟨B, 2, none⟩ = some a3) ∧ Blk wx B #[a1, a2, a3] 26

theorem A3.of {B : Nat} {a1 a2 a3 : Value} {wx : World} (a : Blk wx B #[a1, a2, a3] 26) : A3 B a1 a2 a3 wx := ⟨⟨a.cell 0, a.cell 1, a.cell 2⟩, a⟩

theorem A3.drew {B : Nat} {a1 a2 a3 : Value} {wx : World} (s : A3 B a1 a2 a3 wx) : A3 B a1 a2 a3 wx.drew := s

theorem A3.below {B : Nat} {a1 a2 a3 : Value} {wx w1 : World} (s : A3 B a1 a2 a3 wx) (hb : Below wx.heap.size wx w1) : A3 B a1 a2 a3 w1 := A3.of (s.2.below hb)

theorem print_is (w : World) (hL : LW w) : Calls Tryd.prog 10 #[av true 2306139568115548160 1] w fun e w' => e = .returned (.string ⟨#[50, 48, 48, 49, 58, 100, 98, 56, 58, 58, 49]⟩) ∧ Below w.heap.size w w' := by
  refine (aprint_c (v := true) (h := 2306139568115548160) (l := 1) (a := 2306139568115548160 * 18446744073709551616 + 1) ⟨by omega, by omega, by omega, by omega, rfl⟩ w hL).mono ?_
  rintro e w' ⟨rfl, hb⟩
  rw [print_ex]
  exact ⟨rfl, hb⟩

theorem parse_is (w : World) (hL : LW w) : Calls Tryd.prog 13 #[.string ⟨#[58, 58, 102, 102, 102, 102, 58, 49, 46, 50, 46, 51, 46, 52]⟩] w fun e w' => e = .returned (.tuple #[av true 0 281470698652420, .int .i64 0]) ∧ Below w.heap.size w w' :=
  aparse_is _ (by decide) (Or.inl ⟨281470698652420, parse_ex, ⟨by omega, by omega, by omega, by omega, rfl⟩, rfl⟩) w hL

set_option maxRecDepth 100000 in
set_option maxHeartbeats 1600000 in
theorem awake_c (w : World) (hL : LW w) : Calls Tryd.prog 9 #[] w fun e w' => e = .returned (.bool true) ∧ Below w.heap.size w w' := by
  have hz := hL.sz
  have Lx : Hid (∀ W, Below w.heap.size w W → LW W) := fun W hb => hL.of hb hz
  have PP := parse_is w hL
  clear hL
  go_enter Tryd.func9, Tryd.ntmps9
  go_wp2_with fail
  refine PP.mono ?_
  rintro e w1 ⟨rfl, hb1⟩
  clear PP
  go_wp2_with fail
  have B1 : Below w.heap.size w (w1.alloc (.cells #[.bool true, .int .u64 0, .int .u64 281470698652420] 26)) := hb1.alloc hb1.size _
  have S0 : A3 w1.heap.size (.bool true) (.int .u64 0) (.int .u64 281470698652420) (w1.alloc (.cells #[.bool true, .int .u64 0, .int .u64 281470698652420] 26)) := A3.of (Blk.new _ _ _)
  refine wp_region_held_drew (S := (A3 w1.heap.size (.bool true) (.int .u64 0) (.int .u64 281470698652420))) (by kernel_rfl) ?hS100 (fun hHeld => ?rest100)
  case hS100 => (first | with_reducible exact S0.drew | exact hHeld.below hb3 | exact hHeld.below hb4 | exact hHeld.below hb5)
  refine wpAnyH_ready (rs := [0]) (by kernel_rfl) (by simp) ?rdy101
  refine AllReadyH.cons (List.getElem?_toArray.trans rfl) (fun K hK => ?stp101) AllReadyH.nil
  go_simp
  go_wp2_with fail
  (refine (v6_w _ _ _).mono ?_; rintro e w3 ⟨rfl, hb3⟩; have B3 : Below w.heap.size w w3 := Below.via hb3 B1 (Nat.le_refl _) rfl rfl rfl rfl)
  go_wp2_with fail
  refine hK.out _ _ ?hSn101 (fun hHeld2 => ?rest101)
  case hSn101 => (first | with_reducible exact S0.drew | exact hHeld.below hb3 | exact hHeld.below hb4 | exact hHeld.below hb5)
  clear hK K hHeld
  have hHeld := hHeld2
  clear hHeld2
  try simp only [Act.put, List.setIfInBounds_toArray, List.set_cons_zero, List.set_cons_succ]
  refine wpAnyH_ready (rs := [1]) (by kernel_rfl) (by simp) ?rdy102
  refine AllReadyH.cons (List.getElem?_toArray.trans rfl) (fun K hK => ?stp102) AllReadyH.nil
  go_simp
  go_wp2_with fail
  (refine (print_is _ (Lx.out _ B3)).mono ?_; rintro e w4 ⟨rfl, hb4⟩; have B4 : Below w.heap.size w w4 := Below.via hb4 B3 (Nat.le_refl _) rfl rfl rfl rfl)
  go_wp2_with fail
  refine hK.out _ _ ?hSn102 (fun hHeld2 => ?rest102)
  case hSn102 => (first | with_reducible exact S0.drew | exact hHeld.below hb3 | exact hHeld.below hb4 | exact hHeld.below hb5)
  clear hK K hHeld
  have hHeld := hHeld2
  clear hHeld2
  try simp only [Act.put, List.setIfInBounds_toArray, List.set_cons_zero, List.set_cons_succ]
  refine wpAnyH_take (i := 2) (oi := _) (v := ?v103) (List.getElem?_toArray.trans rfl) (by kernel_rfl) (by kernel_rfl) (by kernel_rfl) (fun _ _ _ h => h) (Or.inl ⟨by rfl, ?hy103⟩) (by assumption) ?rest103
  case hy103 => (intro wq hSw; (try simp only [Two, A3] at hSw); go_simp; try with_reducible rfl)
  try simp only [Act.put, List.setIfInBounds_toArray, List.set_cons_zero, List.set_cons_succ]
  refine wpAnyH_take (i := 3) (oi := _) (v := ?v104) (List.getElem?_toArray.trans rfl) (by kernel_rfl) (by kernel_rfl) (by kernel_rfl) (fun _ _ _ h => h) (Or.inl ⟨by rfl, ?hy104⟩) (by assumption) ?rest104
  case hy104 => (intro wq hSw; (try simp only [Two, A3] at hSw); go_simp; try with_reducible rfl)
  try simp only [Act.put, List.setIfInBounds_toArray, List.set_cons_zero, List.set_cons_succ]
  refine wpAnyH_take (i := 4) (oi := _) (v := ?v105) (List.getElem?_toArray.trans rfl) (by kernel_rfl) (by kernel_rfl) (by kernel_rfl) (fun _ _ _ h => h) (Or.inl ⟨by rfl, ?hy105⟩) (by assumption) ?rest105
  case hy105 => (intro wq hSw; (try simp only [Two, A3] at hSw); go_simp; try with_reducible rfl)
  try simp only [Act.put, List.setIfInBounds_toArray, List.set_cons_zero, List.set_cons_succ]
  refine wpAnyH_ready (rs := [5]) (by kernel_rfl) (by simp) ?rdy106
  refine AllReadyH.cons (List.getElem?_toArray.trans rfl) (fun K hK => ?stp106) AllReadyH.nil
  go_simp
  go_wp2_with fail
  (refine (v6_w _ _ _).mono ?_; rintro e w5 ⟨rfl, hb5⟩; have B5 : Below w.heap.size w w5 := Below.via hb5 B4 (Nat.le_refl _) rfl rfl rfl rfl)
  go_wp2_with fail
  refine hK.out _ _ ?hSn106 (fun hHeld2 => ?rest106)
  case hSn106 => (first | with_reducible exact S0.drew | exact hHeld.below hb3 | exact hHeld.below hb4 | exact hHeld.below hb5)
  clear hK K hHeld
  have hHeld := hHeld2
  clear hHeld2
  try simp only [Act.put, List.setIfInBounds_toArray, List.set_cons_zero, List.set_cons_succ]
  refine wpAnyH_take (i := 6) (oi := _) (v := ?v107) (List.getElem?_toArray.trans rfl) (by kernel_rfl) (by kernel_rfl) (by kernel_rfl) (fun _ _ _ h => h) (Or.inl ⟨by rfl, ?hy107⟩) (by assumption) ?rest107
  case hy107 => (intro wq hSw; (try simp only [Two, A3] at hSw); go_simp; try with_reducible rfl)
  try simp only [Act.put, List.setIfInBounds_toArray, List.set_cons_zero, List.set_cons_succ]
  refine wpAnyH_take (i := 7) (oi := _) (v := ?v108) (List.getElem?_toArray.trans rfl) (by kernel_rfl) (by kernel_rfl) (by kernel_rfl) (fun _ _ _ h => h) (Or.inl ⟨by rfl, ?hy108⟩) (by assumption) ?rest108
  case hy108 => (intro wq hSw; (try simp only [Two, A3] at hSw); go_simp; try with_reducible rfl)
  try simp only [Act.put, List.setIfInBounds_toArray, List.set_cons_zero, List.set_cons_succ]
  refine wpAnyH_take (i := 8) (oi := _) (v := ?v109) (List.getElem?_toArray.trans rfl) (by kernel_rfl) (by kernel_rfl) (by kernel_rfl) (fun _ _ _ h => h) (Or.inl ⟨by rfl, ?hy109⟩) (by assumption) ?rest109
  case hy109 => (intro wq hSw; (try simp only [Two, A3] at hSw); go_simp; try with_reducible rfl)
  try simp only [Act.put, List.setIfInBounds_toArray, List.set_cons_zero, List.set_cons_succ]
  refine wpAnyH_take (i := 9) (oi := _) (v := ?v110) (List.getElem?_toArray.trans rfl) (by kernel_rfl) (by kernel_rfl) (by kernel_rfl) (fun _ _ _ h => h) (Or.inl ⟨by rfl, ?hy110⟩) (by assumption) ?rest110
  case hy110 => (intro wq hSw; (try simp only [Two, A3] at hSw); go_simp; try with_reducible rfl)
  try simp only [Act.put, List.setIfInBounds_toArray, List.set_cons_zero, List.set_cons_succ]
  refine wpAnyH_take (i := 10) (oi := _) (v := ?v111) (List.getElem?_toArray.trans rfl) (by kernel_rfl) (by kernel_rfl) (by kernel_rfl) (fun _ _ _ h => h) (Or.inl ⟨by rfl, ?hy111⟩) (by assumption) ?rest111
  case hy111 => (intro wq hSw; (try simp only [Two, A3] at hSw); go_simp; try with_reducible rfl)
  try simp only [Act.put, List.setIfInBounds_toArray, List.set_cons_zero, List.set_cons_succ]
  refine wpAnyH_take (i := 11) (oi := _) (v := ?v112) (List.getElem?_toArray.trans rfl) (by kernel_rfl) (by kernel_rfl) (by kernel_rfl) (fun _ _ _ h => h) (Or.inl ⟨by rfl, ?hy112⟩) (by assumption) ?rest112
  case hy112 => (intro wq hSw; (try simp only [Two, A3] at hSw); go_simp; try with_reducible rfl)
  try simp only [Act.put, List.setIfInBounds_toArray, List.set_cons_zero, List.set_cons_succ]
  refine wpAnyH_take (i := 12) (oi := _) (v := ?v113) (List.getElem?_toArray.trans rfl) (by kernel_rfl) (by kernel_rfl) (by kernel_rfl) (fun _ _ _ h => h) (Or.inl ⟨by rfl, ?hy113⟩) (by assumption) ?rest113
  case hy113 => (intro wq hSw; (try simp only [Two, A3] at hSw); go_simp; try with_reducible rfl)
  try simp only [Act.put, List.setIfInBounds_toArray, List.set_cons_zero, List.set_cons_succ]
  refine wpAnyH_done (by kernel_rfl) ?fin100 _
  go_wp2
  go_ret
  exact ⟨by first | rfl | simp, B5⟩
end Go.Proofs.YtgbpnekinbdadaaDoor
