/-
  The law's own example holds: awake returns true.
-/
import Derived.Test.YtegbbankbcojkaaPrint
import Derived.Deep.RegionWith
namespace Go.Proofs.Ytegbbankbcojkaa
open Go.ChangeShapes Go.WideShapes Go.ChangeAt Go.RowKit
set_option linter.unusedVariables false
set_option linter.unusedSimpArgs false

theorem isNum_of (h l : Nat) (a : h < 18446744073709551616) (b : l < 18446744073709551616) : IsNum (h : Int) (l : Int) (h * 18446744073709551616 + l) := IsNum.ofNat a b

theorem sub01 (w : World) : Calls Try.prog 10 #[nv 0 0, nv 0 1] w fun e w' => e = .returned (.tuple #[nv 18446744073709551615 18446744073709551615, .bool false]) ∧ Below w.heap.size w w' := by
  refine (sub_c (isNum_of 0 0 (by decide) (by decide)) (isNum_of 0 1 (by decide) (by decide)) w).mono ?_
  rintro e w' ⟨h, l, rfl, hn, hb⟩
  obtain ⟨rfl, rfl⟩ := hn.uniq (isNum_of 18446744073709551615 18446744073709551615 (by decide) (by decide))
  exact ⟨rfl, hb⟩

theorem shl64 (w : World) : Calls Try.prog 28 #[nv 0 1, .int .i64 64] w fun e w' => e = .returned (nv 1 0) ∧ Below w.heap.size w w' := by
  refine (shl_c (isNum_of 0 1 (by decide) (by decide)) (by decide) w).mono ?_
  rintro e w' ⟨h, l, rfl, hn, hb⟩
  obtain ⟨rfl, rfl⟩ := hn.uniq (isNum_of 1 0 (by decide) (by decide))
  exact ⟨rfl, hb⟩

theorem ones128 (w : World) : Calls Try.prog 24 #[.int .i64 128] w fun e w' => e = .returned (nv 18446744073709551615 18446744073709551615) ∧ Below w.heap.size w w' := by
  refine (ones_c 128 w).mono ?_
  rintro e w' ⟨h, l, rfl, hn, hb⟩
  obtain ⟨rfl, rfl⟩ := hn.uniq (isNum_of 18446744073709551615 18446744073709551615 (by decide) (by decide))
  exact ⟨rfl, hb⟩

theorem print64 (w : World) : Calls Try.prog 19 #[nv 1 0] w fun e w' => e = .returned (.string ⟨#[49, 56, 52, 52, 54, 55, 52, 52, 48, 55, 51, 55, 48, 57, 53, 53, 49, 54, 49, 54]⟩) ∧ Below w.heap.size w w' := by
  refine (print_c (isNum_of 1 0 (by decide) (by decide)) w).mono ?_
  rintro e w' ⟨j, rfl, hd, hb⟩
  obtain rfl : j = 20 := hd.uniq ⟨by decide, by decide, fun _ => by decide⟩
  refine ⟨?_, hb⟩
  have : strOfNums (lowD 18446744073709551616 20) = ⟨#[49, 56, 52, 52, 54, 55, 52, 52, 48, 55, 51, 55, 48, 57, 53, 53, 49, 54, 49, 54]⟩ := by decide +kernel
  rw [← this]

set_option maxHeartbeats 800000 in
theorem awake_c (w : World) : Calls Try.prog 7 #[] w fun e w' => e = .returned (.bool true) ∧ Below w.heap.size w w' := by
  go_enter Try.func7, Try.ntmps7
  go_wp2_with fail
  refine (of_w 1 _).mono ?_
  rintro e w1 ⟨rfl, hb1⟩
  go_wp2_with fail
  refine (sub01 _).mono ?_
  rintro e w2 ⟨rfl, hb2⟩
  go_wp2_with fail
  have hB : Below w.heap.size w w2 := hb1.trans (hb2.mono hb1.size)
  have hz := hB.size
  clear hb1 hb2
  go_region_with (first | (go_at_call 18; refine (of_w 1 _).mono ?_; rintro e w3 ⟨rfl, hb3⟩; obtain ⟨hc3, hf3⟩ := bcell hb3; have hz3 : w2.heap.size < w3.heap.size := by have := hb3.size; first | omega | (simp at this; omega)) | (go_at_call 28; refine (shl64 _).mono ?_; rintro e w4 ⟨rfl, hb4⟩; obtain ⟨hc4, hf4⟩ := bcell hb4; have hz4 : w2.heap.size < w4.heap.size := by have := hb4.size; first | omega | (simp at this; omega)) | (go_at_call 19; refine (print64 _).mono ?_; rintro e w5 ⟨rfl, hb5⟩; obtain ⟨hc5, hf5⟩ := bcell hb5; have hz5 : w2.heap.size < w5.heap.size := by have := hb5.size; first | omega | (simp at this; omega)) | (go_at_call 24; refine (ones128 _).mono ?_; rintro e w6 ⟨rfl, hb6⟩; obtain ⟨hc6, hf6⟩ := bcell hb6; have hz6 : w2.heap.size < w6.heap.size := by have := hb6.size; first | omega | (simp at this; omega)))
  all_goals
    go_wp2
    go_ret
    refine ⟨?_, by repeat (first | with_reducible exact Below.refl _ _ | with_reducible refine Below.drew ?_ | with_reducible refine Below.alloc ?_ (by first | omega | (simp <;> omega)) _ | with_reducible refine Below.setCell ?_ (by first | omega | (simp <;> omega)) _ | with_reducible refine Below.trans ?_ (Below.mono hb6 (by first | omega | (simp <;> omega))) | with_reducible refine Below.trans ?_ (Below.mono hb5 (by first | omega | (simp <;> omega))) | with_reducible refine Below.trans ?_ (Below.mono hb4 (by first | omega | (simp <;> omega))) | with_reducible refine Below.trans ?_ (Below.mono hb3 (by first | omega | (simp <;> omega))) | with_reducible refine Below.trans ?_ (Below.mono hB (by first | omega | (simp <;> omega))))⟩
    first | rfl | simp
end Go.Proofs.Ytegbbankbcojkaa
