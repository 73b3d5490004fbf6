/-
  The walks of SumIs and SumJoins.
-/
import Derived.Test.YtahdgdoicpgcmaaDoorSuR
namespace Go.Proofs.YtahdgdoicpgcmaaDoor
open Go.ChangeShapes Go.WideShapes Go.ChangeAt Go.RowKit
set_option linter.unusedVariables false
set_option linter.unusedSimpArgs false

theorem awake_sum : sumF 0 (sb8 ⟨#[49, 50, 51, 52, 53, 54, 55, 56, 57]⟩) 9 = 3808858755 := by decide +kernel

theorem sb8_app (s t : ByteArray) : (∀ i, i < s.size → sb8 (s ++ t) i = sb8 s i) ∧ (∀ i, sb8 (s ++ t) (s.size + i) = sb8 t i) ∧ (s ++ t).size = s.size + t.size := by
  have e : (s ++ t).data.toList = s.data.toList ++ t.data.toList := by simp
  have l : s.data.toList.length = s.size := by simp
  refine ⟨fun i hi => ?_, fun i => ?_, by simp⟩
  · unfold sb8
    rw [e, List.getD_eq_getElem?_getD, List.getElem?_append_left (by omega), ← List.getD_eq_getElem?_getD]
  · unfold sb8
    rw [e, List.getD_eq_getElem?_getD, List.getElem?_append_right (by omega), show s.size + i - s.data.toList.length = i by omega, ← List.getD_eq_getElem?_getD]

theorem sum_join (s t : ByteArray) : sumF (sumF 0 (sb8 s) s.size) (sb8 t) t.size = sumF 0 (sb8 (s ++ t)) (s ++ t).size := by
  obtain ⟨h1, h2, h3⟩ := sb8_app s t
  rw [h3, ← sumF_join (sb8_lt (s ++ t)) s.size t.size]
  have e1 : sumF 0 (sb8 (s ++ t)) s.size = sumF 0 (sb8 s) s.size := by
    unfold sumF
    rw [onI_same s.size h1]
  rw [e1]
  unfold sumF
  congr 1
  exact onI_same t.size (fun i _ => (h2 i).symm)

end Go.Proofs.YtahdgdoicpgcmaaDoor