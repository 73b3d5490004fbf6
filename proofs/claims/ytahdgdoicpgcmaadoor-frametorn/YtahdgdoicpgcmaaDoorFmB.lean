/-
  Package frame: the record whose frame a text begins with.
-/
import Derived.Test.YtahdgdoicpgcmaaDoorFmA
import Derived.Test.YtahdgdoicpgcmaaDoorShelf3
namespace Go.Proofs.YtahdgdoicpgcmaaDoor
open Go.ChangeShapes Go.WideShapes Go.ChangeAt Go.RowKit
set_option linter.unusedVariables false
set_option linter.unusedSimpArgs false

theorem lay_rd : ∀ {l : List UInt8}, 4 ≤ l.length → lay4 (rd4 l) = l.take 4
  | [], h => absurd h (by decide)
  | [_], h => absurd h (by simp)
  | [_, _], h => absurd h (by simp)
  | [_, _, _], h => absurd h (by simp)
  | a :: b :: c :: d :: r, _ => by
    have ha := UInt8.toNat_lt a
    have hb := UInt8.toNat_lt b
    have hc := UInt8.toNat_lt c
    have hd := UInt8.toNat_lt d
    have e : rd4 (a :: b :: c :: d :: r) = a.toNat + 256 * b.toNat + 65536 * c.toNat + 16777216 * d.toNat := rfl
    have e0 : rd4 (a :: b :: c :: d :: r) % 256 = a.toNat := by omega
    have e1 : rd4 (a :: b :: c :: d :: r) / 256 % 256 = b.toNat := by omega
    have e2 : rd4 (a :: b :: c :: d :: r) / 65536 % 256 = c.toNat := by omega
    have e3 : rd4 (a :: b :: c :: d :: r) / 16777216 % 256 = d.toNat := by omega
    unfold lay4
    rw [e0, e1, e2, e3, UInt8.ofNat_toNat, UInt8.ofNat_toNat, UInt8.ofNat_toNat, UInt8.ofNat_toNat]
    rfl

theorem rd4_take (l : List UInt8) : rd4 (l.take 4) = rd4 l := by
  unfold rd4 by4
  simp only [List.getD_eq_getElem?_getD, List.getElem?_take]
  rw [if_pos (by omega), if_pos (by omega), if_pos (by omega), if_pos (by omega)]

theorem rd4_lt (l : List UInt8) : rd4 l < 4294967296 := by
  have h : ∀ i, by4 l i < 256 := fun i => UInt8.toNat_lt _
  have := h 0
  have := h 1
  have := h 2
  have := h 3
  unfold rd4
  omega

theorem readV_rd (s : ByteArray) : readV s 4 = rd4 s.data.toList := by
  have e : ∀ i, sb8 s i = by4 s.data.toList i := fun _ => rfl
  unfold rd4
  simp only [readV, e]
  omega

/-- A frame's three parts, one by one. -/
theorem hd_parts (g : List UInt8 → Nat) {l : List UInt8} (h8 : 8 ≤ l.length) (h1 : rd4 l ≤ 65536) (h2 : 8 + rd4 l ≤ l.length) :
    hdF g l = if lay4 (g (l.take 4 ++ (l.drop 8).take (rd4 l))) = (l.drop 4).take 4 then some ((l.drop 8).take (rd4 l)) else none := by
  have hr : ((l.drop 8).take (rd4 l)).length = rd4 l := by rw [List.length_take, List.length_drop]; omega
  have e : l.take (8 + rd4 l) = l.take 4 ++ (l.drop 4).take 4 ++ (l.drop 8).take (rd4 l) := by
    rw [List.take_add, show (8 : Nat) = 4 + 4 from rfl, List.take_add]
  have f : frF g ((l.drop 8).take (rd4 l)) = l.take 4 ++ lay4 (g (l.take 4 ++ (l.drop 8).take (rd4 l))) ++ (l.drop 8).take (rd4 l) := by
    unfold frF
    rw [hr, lay_rd (by omega)]
  have q : (frF g ((l.drop 8).take (rd4 l)) = l.take (8 + rd4 l)) = (lay4 (g (l.take 4 ++ (l.drop 8).take (rd4 l))) = (l.drop 4).take 4) := by
    rw [e, f]
    apply propext
    constructor
    · intro h
      have a := (List.append_inj' h rfl).1
      exact (List.append_inj a rfl).2
    · intro h
      rw [h]
  unfold hdF
  rw [if_neg (by omega), if_neg (by omega)]
  simp only [q]

theorem str_ne {a b : ByteArray} (h : a ≠ b) : (a.toList == b.toList) = false := by
  rw [beq_eq_false_iff_ne, Lib.toList_data, Lib.toList_data]
  exact fun e => h (bytes_eqF e)

theorem clone_c (s : ByteArray) (hs : s.size ≤ 1000000) (w : World) :
    Calls Tryd.prog 26 #[.string s] w fun e w' => e = .returned (.string s) ∧ Below w.heap.size w w' := by
  have C := hide (Tryd.stringslite_Clone s w (by omega))
  go_enter Tryd.func26, Tryd.ntmps26
  go_wp2_with fail
  refine C.out.mono ?_
  rintro e w1 ⟨rfl, hb1⟩
  have B := hide hb1
  clear hb1 C
  go_wp2
  go_ret
  exact ⟨rfl, B.out⟩

set_option maxRecDepth 100000 in
set_option maxHeartbeats 1600000 in
theorem first_no (s : ByteArray) (hs : s.size ≤ 1000000) (h : hdF gs s.data.toList = none) (w : World) (hT : RM w) :
    Calls Tryd.prog 18 #[.string s] w fun e w' => e = .returned (.tuple #[.string ⟨#[]⟩, .bool false]) ∧ Below w.heap.size w w' := by
  by_cases h8 : s.size < 8
  · have c : (s.size : Int) < 8 := by omega
    clear h
    go_enter Tryd.func18, Tryd.ntmps18
    go_wp2
    go_ret2
    exact ⟨by first | rfl | simp, Below.refl _ _⟩
  have c8 : ¬ (s.size : Int) < 8 := by omega
  have c8' : (8 : Int) ≤ (s.size : Int) := by omega
  have c4' : (4 : Int) ≤ (s.size : Int) := by omega
  have sX : (s.extract 0 4).size = 4 := by rw [ByteArray.size_extract]; omega
  have sY : (s.extract 4 8).size = 4 := by rw [ByteArray.size_extract]; omega
  have sZ : (s.extract 8 s.size).size = s.size - 8 := by rw [ByteArray.size_extract]; omega
  have lX : (s.extract 0 4).data.toList = s.data.toList.take 4 := by rw [ext_seg]; rfl
  have lY : (s.extract 4 8).data.toList = (s.data.toList.drop 4).take 4 := by rw [ext_seg]
  have lZ : (s.extract 8 s.size).data.toList = s.data.toList.drop 8 := ext_rest s 8
  have rX : readV (s.extract 0 4) 4 = rd4 s.data.toList := by rw [readV_rd, lX, rd4_take]
  have nl := rd4_lt s.data.toList
  have sl := len_of s
  obtain ⟨X, hX⟩ : ∃ X, s.extract 0 4 = X := ⟨_, rfl⟩
  obtain ⟨Y, hY⟩ : ∃ Y, s.extract 4 8 = Y := ⟨_, rfl⟩
  obtain ⟨Z, hZ⟩ : ∃ Z, s.extract 8 s.size = Z := ⟨_, rfl⟩
  rw [hX] at sX lX rX
  rw [hY] at sY lY
  rw [hZ] at sZ lZ
  have C1 := hide (fun w => read_ok X sX rX w)
  by_cases hbad : 65536 < rd4 s.data.toList ∨ s.size < 8 + rd4 s.data.toList
  · obtain ⟨n, hn⟩ : ∃ n, rd4 s.data.toList = n := ⟨_, rfl⟩
    rw [hn] at hbad nl C1
    clear h rX lX lY lZ hn sl
    by_cases hb1 : 65536 < n
    · have d1 : (n : Int) > 65536 := by omega
      go_enter Tryd.func18, Tryd.ntmps18
      go_upto_region 3 with fail
      go_quiet (fail)
      have BQ := hide (below_drewN8 (Below.refl w.heap.size w) nq)
      obtain ⟨wq, hwq⟩ : ∃ wq, w.drewN nq = wq := ⟨_, rfl⟩
      rw [hwq] at BQ ⊢
      clear hwq
      go_wp2_with fail
      refine (C1.out _).mono ?_
      rintro e w1 ⟨rfl, rfl⟩
      go_wp2
      go_ret2
      exact ⟨by first | rfl | simp, BQ.out⟩
    · have d1 : ¬ (n : Int) > 65536 := by omega
      have d2 : (n : Int) > (Z.size : Int) := by omega
      go_enter Tryd.func18, Tryd.ntmps18
      go_upto_region 3 with fail
      go_quiet (fail)
      have BQ := hide (below_drewN8 (Below.refl w.heap.size w) nq)
      obtain ⟨wq, hwq⟩ : ∃ wq, w.drewN nq = wq := ⟨_, rfl⟩
      rw [hwq] at BQ ⊢
      clear hwq
      go_wp2_with fail
      refine (C1.out _).mono ?_
      rintro e w1 ⟨rfl, rfl⟩
      go_wp2
      go_ret2
      exact ⟨by first | rfl | simp, BQ.out⟩
  have hp := hd_parts gs (l := s.data.toList) (by omega) (by omega) (by omega)
  rw [hp] at h
  have lR : (Z.extract 0 (rd4 s.data.toList)).data.toList = (s.data.toList.drop 8).take (rd4 s.data.toList) := by rw [ext_seg, lZ]; rfl
  have sR : (Z.extract 0 (rd4 s.data.toList)).size = rd4 s.data.toList := by rw [ByteArray.size_extract]; omega
  obtain ⟨R, hR⟩ : ∃ R, Z.extract 0 (rd4 s.data.toList) = R := ⟨_, rfl⟩
  rw [hR] at lR sR
  have C2 := hide (fun w h => sum_c X R (by omega) (by omega) w h)
  rw [lX, lR] at C2
  obtain ⟨v, hv⟩ : ∃ v, gs (s.data.toList.take 4 ++ (s.data.toList.drop 8).take (rd4 s.data.toList)) = v := ⟨_, rfl⟩
  rw [hv] at h C2
  have ne : layS v ≠ Y := by
    intro e
    rw [if_pos (by rw [← layS_list, e, lY])] at h
    cases h
  obtain ⟨V, hV⟩ : ∃ V, layS v = V := ⟨_, rfl⟩
  rw [hV] at ne C2
  have ne2 := str_ne ne
  obtain ⟨n, hn⟩ : ∃ n, rd4 s.data.toList = n := ⟨_, rfl⟩
  rw [hn] at hbad nl C1 hR sR
  have d1 : ¬ (n : Int) > 65536 := by omega
  have d2 : ¬ (n : Int) > (Z.size : Int) := by omega
  clear hp h lR lX lY lZ rX hv hV hn sl
  go_enter Tryd.func18, Tryd.ntmps18
  go_upto_region 3 with fail
  go_quiet (fail)
  have BQ := hide (below_drewN8 (Below.refl w.heap.size w) nq)
  obtain ⟨wq, hwq⟩ : ∃ wq, w.drewN nq = wq := ⟨_, rfl⟩
  rw [hwq] at BQ ⊢
  clear hwq
  go_wp2_with fail
  refine (C1.out _).mono ?_
  rintro e w1 ⟨rfl, rfl⟩
  have D2 := hide (C2.out _ (hT.below BQ.out))
  clear C2 hT C1
  go_wp2_with fail
  refine D2.out.mono ?_
  rintro e w2 ⟨rfl, hb2⟩
  have B := hide (BQ.out.trans (hb2.mono BQ.out.size))
  clear hb2 D2 BQ
  go_wp2
  go_ret2
  exact ⟨by first | rfl | simp, B.out⟩

set_option maxRecDepth 100000 in
set_option maxHeartbeats 1600000 in
theorem first_some (s : ByteArray) (hs : s.size ≤ 1000000) {R : ByteArray} (h : hdF gs s.data.toList = some R.data.toList) (w : World) (hT : RM w) :
    Calls Tryd.prog 18 #[.string s] w fun e w' => e = .returned (.tuple #[.string R, .bool true]) ∧ Below w.heap.size w w' := by
  obtain ⟨q1, q2, q3, q4, q5⟩ := hd_some h
  rw [len_of, len_of] at q2
  rw [len_of] at q1 q3 q4
  have c8 : ¬ (s.size : Int) < 8 := by omega
  have c8' : (8 : Int) ≤ (s.size : Int) := by omega
  have c4' : (4 : Int) ≤ (s.size : Int) := by omega
  have sX : (s.extract 0 4).size = 4 := by rw [ByteArray.size_extract]; omega
  have sY : (s.extract 4 8).size = 4 := by rw [ByteArray.size_extract]; omega
  have sZ : (s.extract 8 s.size).size = s.size - 8 := by rw [ByteArray.size_extract]; omega
  have lX : (s.extract 0 4).data.toList = s.data.toList.take 4 := by rw [ext_seg]; rfl
  have lY : (s.extract 4 8).data.toList = (s.data.toList.drop 4).take 4 := by rw [ext_seg]
  have lZ : (s.extract 8 s.size).data.toList = s.data.toList.drop 8 := ext_rest s 8
  have rX : readV (s.extract 0 4) 4 = rd4 s.data.toList := by rw [readV_rd, lX, rd4_take]
  have sl := len_of s
  have hn : rd4 s.data.toList = R.size := by
    rw [q5, rd4_fr gs (by rw [len_of]; exact q1), len_of]
  have hp := hd_parts gs (l := s.data.toList) (by omega) (by omega) (by omega)
  rw [hp] at h
  obtain ⟨X, hX⟩ : ∃ X, s.extract 0 4 = X := ⟨_, rfl⟩
  obtain ⟨Y, hY⟩ : ∃ Y, s.extract 4 8 = Y := ⟨_, rfl⟩
  obtain ⟨Z, hZ⟩ : ∃ Z, s.extract 8 s.size = Z := ⟨_, rfl⟩
  rw [hX] at sX lX rX
  rw [hY] at sY lY
  rw [hZ] at sZ lZ
  rw [hn] at rX h
  have lR : Z.extract 0 R.size = R := bytes_eqF (by rw [ext_seg, lZ]; exact q3.symm)
  have C1 := hide (fun w => read_ok X sX rX w)
  have C2 := hide (fun w h => sum_c X R (by omega) (by omega) w h)
  rw [lX] at C2
  have ye : layS (gs (s.data.toList.take 4 ++ R.data.toList)) = Y := by
    apply bytes_eqF
    rw [layS_list, lY]
    rw [← q3] at h
    by_cases c : lay4 (gs (s.data.toList.take 4 ++ R.data.toList)) = (s.data.toList.drop 4).take 4
    · exact c
    · rw [if_neg c] at h
      cases h
  rw [ye] at C2
  have C3 := hide (fun w => clone_c R (by omega) w)
  obtain ⟨n, hn2⟩ : ∃ n, R.size = n := ⟨_, rfl⟩
  rw [hn2] at q1 q2 C1 lR
  have d1 : ¬ (n : Int) > 65536 := by omega
  have d2 : ¬ (n : Int) > (Z.size : Int) := by omega
  clear hp h lX lY lZ rX hn hn2 sl ye q3 q4 q5
  go_enter Tryd.func18, Tryd.ntmps18
  go_upto_region 3 with fail
  go_quiet (fail)
  have BQ := hide (below_drewN8 (Below.refl w.heap.size w) nq)
  obtain ⟨wq, hwq⟩ : ∃ wq, w.drewN nq = wq := ⟨_, rfl⟩
  rw [hwq] at BQ ⊢
  clear hwq
  go_wp2_with fail
  refine (C1.out _).mono ?_
  rintro e w1 ⟨rfl, rfl⟩
  have D2 := hide (C2.out _ (hT.below BQ.out))
  clear C2 hT C1
  go_wp2_with fail
  refine D2.out.mono ?_
  rintro e w2 ⟨rfl, hb2⟩
  have B := hide (BQ.out.trans (hb2.mono BQ.out.size))
  clear hb2 D2 BQ
  go_wp2_with fail
  refine (C3.out _).mono ?_
  rintro e w3 ⟨rfl, hb3⟩
  have B2 := hide (B.out.trans (hb3.mono B.out.size))
  clear hb3 C3 B
  go_wp2
  go_ret2
  exact ⟨by first | rfl | simp, B2.out⟩
end Go.Proofs.YtahdgdoicpgcmaaDoor
