/-
  The walks of SumIs and SumJoins.
-/
import Derived.Test.YtgbpnekinbdadaaDoorSuR
namespace Go.Proofs.YtgbpnekinbdadaaDoor
open Go.ChangeShapes Go.WideShapes Go.ChangeAt Go.RowKit
set_option linter.unusedVariables false
set_option linter.unusedSimpArgs false

theorem awake_sum : sumF 0 (sb8 ⟨#[49, 50, 51, 52, 53, 54, 55, 56, 57]⟩) 9 = 3808858755 := by decide +kernel

set_option maxHeartbeats 800000 in
theorem awake8_c (w : World) (hT : RM w) : Calls Tryd.prog 15 #[] w fun e w' => e = .returned (.bool true) ∧ w' = w := by
  have C := hide (of_c ⟨#[49, 50, 51, 52, 53, 54, 55, 56, 57]⟩ (by decide) awake_sum w hT)
  clear hT
  go_enter Tryd.func15, Tryd.ntmps15
  go_wp2_with fail
  refine C.out.mono ?_
  rintro e w1 ⟨rfl, rfl⟩
  go_wp2
  go_ret
  exact ⟨by first | rfl | simp, rfl⟩

set_option maxRecDepth 100000 in
set_option maxHeartbeats 1600000 in
theorem sumis_walk {n : Nat} (hn : n ≤ 4294967295) (s : ByteArray) (hs : s.size ≤ maxLen) (w : World) (hT : RM w) :
    Calls Tryd.prog 5 #[.string s, .int .u32 n] w fun e w' => e = .returned (.bool true) ∧ w' = w := by
  unfold maxLen at hs
  have AW := hide (awake8_c w hT)
  have HT := hide hT
  clear hT
  by_cases h4 : s.size ≤ 4000
  · have c4 : ¬ (s.size : Int) > 4000 := by omega
    obtain ⟨v, hv⟩ : ∃ v, sumF 0 (sb8 s) s.size = v := ⟨_, rfl⟩
    obtain ⟨u, hu⟩ : ∃ u, sumF n (sb8 s) s.size = u := ⟨_, rfl⟩
    have C1 := hide (of_c s (by omega) hv w HT.out)
    have C2 := hide (ron_c (n := 0) (by decide) s (by omega) hv w)
    have C3 := hide (on_c hn s (by omega) hu w HT.out)
    have C4 := hide (ron_c hn s (by omega) hu w)
    clear hv hu HT
    go_enter Tryd.func5, Tryd.ntmps5
    go_wp2_with fail
    refine AW.out.mono ?_
    rintro e w1 ⟨rfl, rfl⟩
    go_wp2_with fail
    refine C1.out.mono ?_
    rintro e w1 ⟨rfl, rfl⟩
    go_wp2_with fail
    refine C2.out.mono ?_
    rintro e w1 ⟨rfl, rfl⟩
    go_wp2_with fail
    refine C3.out.mono ?_
    rintro e w1 ⟨rfl, rfl⟩
    go_wp2_with fail
    refine C4.out.mono ?_
    rintro e w1 ⟨rfl, rfl⟩
    go_wp2
    go_ret
    exact ⟨by first | rfl | simp, rfl⟩
  · have c4 : (s.size : Int) > 4000 := by omega
    clear HT
    go_enter Tryd.func5, Tryd.ntmps5
    go_wp2_with fail
    refine AW.out.mono ?_
    rintro e w1 ⟨rfl, rfl⟩
    go_wp2
    go_ret
    exact ⟨by first | rfl | simp, rfl⟩

theorem sb8_app (s t : ByteArray) : (∀ i, i < s.size → sb8 (s ++ t) i = sb8 s i) ∧ (∀ i, sb8 (s ++ t) (s.size + i) = sb8 t i) ∧ (s ++ t).size = s.size + t.size := by
  have e : (s ++ t).data.toList = s.data.toList ++ t.data.toList := by simp
  have l : s.data.toList.length = s.size := by simp
  refine ⟨fun i hi => ?_, fun i => ?_, by simp⟩
  · unfold sb8
    rw [e, List.getD_eq_getElem?_getD, List.getElem?_append_left (by omega), ← List.getD_eq_getElem?_getD]
  · unfold sb8
    rw [e, List.getD_eq_getElem?_getD, List.getElem?_append_right (by omega), show s.size + i - s.data.toList.length = i by omega, ← List.getD_eq_getElem?_getD]

theorem sum_join (s t : ByteArray) : sumF (sumF 0 (sb8 s) s.size) (sb8 t) t.size = sumF 0 (sb8 (s ++ t)) (s ++ t).size := by
  obtain ⟨h1, h2, h3⟩ := sb8_app s t
  rw [h3, ← sumF_join (sb8_lt (s ++ t)) s.size t.size]
  have e1 : sumF 0 (sb8 (s ++ t)) s.size = sumF 0 (sb8 s) s.size := by
    unfold sumF
    rw [onI_same s.size h1]
  rw [e1]
  unfold sumF
  congr 1
  exact onI_same t.size (fun i _ => (h2 i).symm)

set_option maxRecDepth 100000 in
set_option maxHeartbeats 1600000 in
theorem sumjoins_walk (s t : ByteArray) (hs : s.size ≤ 140737488351232) (ht : t.size ≤ 140737488351232) (w : World) (hT : RM w) :
    Calls Tryd.prog 6 #[.string s, .string t] w fun e w' => e = .returned (.bool true) ∧ w' = w := by
  have AW := hide (awake8_c w hT)
  have HT := hide hT
  clear hT
  by_cases h4 : s.size + t.size ≤ 4000
  · have c4 : ¬ (s.size : Int) + (t.size : Int) > 4000 := by omega
    obtain ⟨v, hv⟩ : ∃ v, sumF 0 (sb8 s) s.size = v := ⟨_, rfl⟩
    obtain ⟨u, hu⟩ : ∃ u, sumF v (sb8 t) t.size = u := ⟨_, rfl⟩
    have hv2 : v ≤ 4294967295 := by rw [← hv]; exact sumF_le _ _ _
    have hj : sumF 0 (sb8 (s ++ t)) (s ++ t).size = u := by rw [← sum_join, hv, hu]
    have C1 := hide (of_c s (by omega) hv w HT.out)
    have C2 := hide (on_c hv2 t (by omega) hu w HT.out)
    have C3 := hide (of_c (s ++ t) (by rw [(sb8_app s t).2.2]; omega) hj w HT.out)
    clear hv hu HT hj
    go_enter Tryd.func6, Tryd.ntmps6
    go_wp2_with fail
    refine AW.out.mono ?_
    rintro e w1 ⟨rfl, rfl⟩
    go_wp2_with fail
    refine C1.out.mono ?_
    rintro e w1 ⟨rfl, rfl⟩
    go_wp2_with fail
    refine C2.out.mono ?_
    rintro e w1 ⟨rfl, rfl⟩
    go_wp2_with fail
    refine C3.out.mono ?_
    rintro e w1 ⟨rfl, rfl⟩
    go_wp2
    go_ret
    exact ⟨by first | rfl | simp, rfl⟩
  · have c4 : (s.size : Int) + (t.size : Int) > 4000 := by omega
    clear HT
    go_enter Tryd.func6, Tryd.ntmps6
    go_wp2_with fail
    refine AW.out.mono ?_
    rintro e w1 ⟨rfl, rfl⟩
    go_wp2
    go_ret
    exact ⟨by first | rfl | simp, rfl⟩

theorem sumis_c {z : Int} (hz : 0 ≤ z ∧ z ≤ 4294967295) (s : ByteArray) (hs : s.size ≤ maxLen) (w : World) (hT : RM w) :
    Calls Tryd.prog 5 #[.string s, .int .u32 z] w fun e w' => e = .returned (.bool true) ∧ Below w.heap.size w w' := by
  obtain ⟨n, rfl⟩ := Int.eq_ofNat_of_zero_le hz.1
  refine (sumis_walk (by omega) s hs w hT).mono ?_
  rintro e w' ⟨rfl, rfl⟩
  exact ⟨rfl, Below.refl _ _⟩

theorem sumjoins_c (s t : ByteArray) (hs : s.size ≤ 140737488351232) (ht : t.size ≤ 140737488351232) (w : World) (hT : RM w) :
    Calls Tryd.prog 6 #[.string s, .string t] w fun e w' => e = .returned (.bool true) ∧ Below w.heap.size w w' := by
  refine (sumjoins_walk s t hs ht w hT).mono ?_
  rintro e w' ⟨rfl, rfl⟩
  exact ⟨rfl, Below.refl _ _⟩
end Go.Proofs.YtgbpnekinbdadaaDoor
