/-
  Package frame: texts as lists of bytes; layOfSum, Size, Of.
-/
import Derived.Test.YtahdgdoicpgcmaaDoorSuY
import Derived.Test.YtahdgdoicpgcmaaDoorFmM
import Derived.Test.YtahdgdoicpgcmaaDoorKn
import Derived.Lib.Strings
namespace Go.Proofs.YtahdgdoicpgcmaaDoor
open Go.ChangeShapes Go.WideShapes Go.ChangeAt Go.RowKit
set_option linter.unusedVariables false
set_option linter.unusedSimpArgs false

/-- The sum of a list of bytes. -/
def gs (l : List UInt8) : Nat := sumF 0 (fun i => (l.getD i 0).toNat) l.length

theorem gs_le (l : List UInt8) : gs l ≤ 4294967295 := sumF_le _ _ _

theorem len_of (t : ByteArray) : t.data.toList.length = t.size := Array.length_toList

theorem gs_of (t : ByteArray) : sumF 0 (sb8 t) t.size = gs t.data.toList := by
  unfold gs
  rw [len_of]
  rfl

theorem app_list (a b : ByteArray) : (a ++ b).data.toList = a.data.toList ++ b.data.toList := by
  rw [ByteArray.data_append, Array.toList_append]

theorem gs_join (a b : ByteArray) : sumF (sumF 0 (sb8 a) a.size) (sb8 b) b.size = gs (a.data.toList ++ b.data.toList) := by
  rw [sum_join, gs_of, app_list]

theorem bytes_eqF {a b : ByteArray} (h : a.data.toList = b.data.toList) : a = b := by
  cases a
  cases b
  congr 1
  exact Array.ext' h

theorem ext_seg (s : ByteArray) (a b : Nat) : (s.extract a b).data.toList = (s.data.toList.drop a).take (b - a) := Lib.extract_data s a b

theorem ext_rest (s : ByteArray) (a : Nat) : (s.extract a s.size).data.toList = s.data.toList.drop a := by
  rw [ext_seg, List.take_of_length_le]
  rw [List.length_drop, len_of]
  omega

theorem layS_list (n : Nat) : (layS n).data.toList = lay4 n := by
  rw [layS_four, strOfNums_data]
  rfl

/-- A record's frame as a text. -/
def frB (s : ByteArray) : ByteArray := layS s.size ++ layS (gs (lay4 s.size ++ s.data.toList)) ++ s

theorem frB_list (s : ByteArray) : (frB s).data.toList = frF gs s.data.toList := by
  unfold frB frF
  rw [app_list, app_list, layS_list, layS_list, len_of]

theorem frB_size (s : ByteArray) : (frB s).size = 8 + s.size := by
  rw [← len_of, frB_list, frF_length, len_of]

theorem sum_c (a b : ByteArray) (ha : a.size ≤ 1000000) (hb : b.size ≤ 1000000) (w : World) (hT : RM w) :
    Calls Tryd.prog 17 #[.string a, .string b] w fun e w' => e = .returned (.string (layS (gs (a.data.toList ++ b.data.toList)))) ∧ Below w.heap.size w w' := by
  have C1 := hide (of_c a ha rfl w hT)
  have C2 := hide (on_c (sumF_le 0 (sb8 a) a.size) b hb (gs_join a b) w hT)
  have C3 := hide (lay_c (gs_le (a.data.toList ++ b.data.toList)) w)
  obtain ⟨x, hx⟩ : ∃ x, sumF 0 (sb8 a) a.size = x := ⟨_, rfl⟩
  obtain ⟨y, hy⟩ : ∃ y, gs (a.data.toList ++ b.data.toList) = y := ⟨_, rfl⟩
  rw [hx] at C1 C2
  rw [hy] at C2 C3 ⊢
  clear hx hy hT ha hb
  go_enter Tryd.func17, Tryd.ntmps17
  go_wp2_with fail
  refine C1.out.mono ?_
  rintro e w1 ⟨rfl, rfl⟩
  go_wp2_with fail
  refine C2.out.mono ?_
  rintro e w2 ⟨rfl, rfl⟩
  go_wp2_with fail
  refine C3.out.mono ?_
  rintro e w3 ⟨rfl, hb3⟩
  have B := hide hb3
  clear hb3 C1 C2 C3
  go_wp2
  go_ret
  exact ⟨rfl, B.out⟩

theorem size_c (s : ByteArray) (hs : s.size ≤ 1000000) (w : World) :
    Calls Tryd.prog 8 #[.string s] w fun e w' => e = .returned (.int .i64 ((8 + s.size : Nat) : Int)) ∧ w' = w := by
  go_enter Tryd.func8, Tryd.ntmps8
  go_wp2
  go_ret
  exact ⟨by first | rfl | (congr 2; omega) | simp, rfl⟩

theorem of_long (s : ByteArray) (hs : s.size ≤ maxLen) (hl : 65536 < s.size) (w : World) :
    Calls Tryd.prog 7 #[.string s] w fun e w' => e = .returned (.tuple #[.string ⟨#[]⟩, .int .i64 5]) ∧ w' = w := by
  unfold maxLen at hs
  have c : (s.size : Int) > 65536 := by omega
  go_enter Tryd.func7, Tryd.ntmps7
  go_wp2
  go_ret2
  exact ⟨by first | rfl | simp, rfl⟩

set_option maxHeartbeats 800000 in
theorem of_ok (s : ByteArray) (hs : s.size ≤ 65536) {T : ByteArray} (hTT : frB s = T) (w : World) (hT : RM w) :
    Calls Tryd.prog 7 #[.string s] w fun e w' => e = .returned (.tuple #[.string T, .int .i64 0]) ∧ Below w.heap.size w w' := by
  have c : ¬ (s.size : Int) > 65536 := by omega
  have C1 := hide (lay_c (n := s.size) (by omega) w)
  have C2 := hide (fun w' (h : RM w') => sum_c (layS s.size) s (by rw [layS_size]; omega) (by omega) w' h)
  have HT := hide hT
  have HF := hide hTT
  have z1 := layS_size s.size
  have z2 := layS_size (gs (lay4 s.size ++ s.data.toList))
  unfold frB at HF
  rw [layS_list] at C2
  obtain ⟨X, hX⟩ : ∃ X, layS s.size = X := ⟨_, rfl⟩
  obtain ⟨Y, hY⟩ : ∃ Y, layS (gs (lay4 s.size ++ s.data.toList)) = Y := ⟨_, rfl⟩
  rw [hX] at C1 C2 HF z1
  rw [hY] at C2 HF z2
  clear hX hY hT hTT
  go_enter Tryd.func7, Tryd.ntmps7
  go_wp2_with fail
  refine C1.out.mono ?_
  rintro e w1 ⟨rfl, hb1⟩
  have D2 := hide (C2.out w1 (HT.out.below hb1))
  have HB := hide hb1
  clear hb1 C1 C2 HT
  go_wp2_with fail
  refine D2.out.mono ?_
  rintro e w2 ⟨rfl, hb2⟩
  have B := hide (HB.out.trans (hb2.mono HB.out.size))
  clear hb2 HB D2
  go_wp2
  go_ret2
  exact ⟨by rw [← HF.out]; rfl, B.out⟩
end Go.Proofs.YtahdgdoicpgcmaaDoor
