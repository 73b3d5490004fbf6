/-
  A disk that is not there; the walk of DiskNil.
-/
import Derived.Test.YtoppmpodiofhhaaDk7
namespace Go.Proofs.Ytoppmpodiofhhaa
open Go.ChangeShapes Go.WideShapes Go.ChangeAt Go.RowKit
set_option linter.unusedVariables false
set_option linter.unusedSimpArgs false

theorem nil_reach (n : Int) (w : World) : Calls Try.prog 32 #[.pointer none, .int .i64 n] w fun e w' => e = .returned (.int .i64 2) ∧ w' = w := by
  go_enter Try.func32, Try.ntmps32
  go_wp2_with fail
  go_ret
  exact ⟨rfl, rfl⟩

theorem nil_find (n : Int) (w : World) : Calls Try.prog 25 #[.pointer none, .int .i64 n] w fun e w' => e = .returned (.tuple #[.pointer none, .int .i64 2]) ∧ w' = w := by
  go_enter Try.func25, Try.ntmps25
  go_wp2_with fail
  refine (nil_reach _ _).mono ?_
  rintro e w1 ⟨rfl, rfl⟩
  go_wp2_with fail
  go_ret2
  exact ⟨rfl, rfl⟩

theorem nil_append (n : Int) (t : ByteArray) (w : World) : Calls Try.prog 19 #[.pointer none, .int .i64 n, .string t] w fun e w' => e = .returned (.int .i64 2) ∧ w' = w := by
  go_enter Try.func19, Try.ntmps19
  go_wp2_with fail
  refine (nil_reach _ _).mono ?_
  rintro e w1 ⟨rfl, rfl⟩
  go_wp2_with fail
  go_ret
  exact ⟨rfl, rfl⟩

theorem nil_sync (n : Int) (w : World) : Calls Try.prog 22 #[.pointer none, .int .i64 n] w fun e w' => e = .returned (.int .i64 2) ∧ w' = w := by
  go_enter Try.func22, Try.ntmps22
  go_wp2_with fail
  refine (nil_find _ _).mono ?_
  rintro e w1 ⟨rfl, rfl⟩
  go_wp2_with fail
  go_ret
  exact ⟨rfl, rfl⟩

theorem nil_remove (n : Int) (w : World) : Calls Try.prog 24 #[.pointer none, .int .i64 n] w fun e w' => e = .returned (.int .i64 2) ∧ w' = w := by
  go_enter Try.func24, Try.ntmps24
  go_wp2_with fail
  refine (nil_find _ _).mono ?_
  rintro e w1 ⟨rfl, rfl⟩
  go_wp2_with fail
  go_ret
  exact ⟨rfl, rfl⟩

theorem nil_trim (n z : Int) (w : World) : Calls Try.prog 23 #[.pointer none, .int .i64 n, .int .i64 z] w fun e w' => e = .returned (.int .i64 2) ∧ w' = w := by
  go_enter Try.func23, Try.ntmps23
  go_wp2_with fail
  refine (nil_find _ _).mono ?_
  rintro e w1 ⟨rfl, rfl⟩
  go_wp2_with fail
  go_ret
  exact ⟨rfl, rfl⟩

theorem nil_read (n : Int) (w : World) : Calls Try.prog 10 #[.pointer none, .int .i64 n] w fun e w' => e = .returned (.tuple #[.string ⟨#[]⟩, .bool false]) ∧ w' = w := by
  go_enter Try.func10, Try.ntmps10
  go_wp2_with fail
  refine (nil_find _ _).mono ?_
  rintro e w1 ⟨rfl, rfl⟩
  go_wp2_with fail
  go_ret2
  exact ⟨rfl, rfl⟩

theorem nil_safe (n : Int) (w : World) : Calls Try.prog 12 #[.pointer none, .int .i64 n] w fun e w' => e = .returned (.int .i64 0) ∧ w' = w := by
  go_enter Try.func12, Try.ntmps12
  go_wp2_with fail
  go_ret
  exact ⟨rfl, rfl⟩

theorem nil_fuse (n : Int) (w : World) : Calls Try.prog 13 #[.pointer none, .int .i64 n] w fun e w' => e = .returned (.int .i64 2) ∧ w' = w := by
  go_enter Try.func13, Try.ntmps13
  go_wp2_with fail
  go_ret
  exact ⟨rfl, rfl⟩

theorem nil_start (x : Option Addr) (n c : Nat) (w : World) : Calls Try.prog 21 #[.pointer none, .slice x n c] w fun e w' => e = .returned (.int .i64 2) ∧ w' = w := by
  go_enter Try.func21, Try.ntmps21
  go_wp2_with fail
  go_ret
  exact ⟨rfl, rfl⟩

theorem nil_cut (w : World) : Calls Try.prog 20 #[.pointer none] w fun e w' => e = .returned (.int .i64 2) ∧ w' = w := by
  go_enter Try.func20, Try.ntmps20
  go_wp2_with fail
  go_ret
  exact ⟨rfl, rfl⟩

theorem nil_list (w : World) : Calls Try.prog 17 #[.pointer none] w fun e w' => e = .returned (.slice none 0 0) ∧ w' = w := by
  go_enter Try.func17, Try.ntmps17
  go_wp2_with fail
  go_ret
  exact ⟨rfl, rfl⟩

theorem nil_on (w : World) : Calls Try.prog 11 #[.pointer none] w fun e w' => e = .returned (.bool false) ∧ w' = w := by
  go_enter Try.func11, Try.ntmps11
  go_wp2_with fail
  go_ret
  exact ⟨rfl, rfl⟩

theorem nil_steps (w : World) : Calls Try.prog 16 #[.pointer none] w fun e w' => e = .returned (.int .i64 0) ∧ w' = w := by
  go_enter Try.func16, Try.ntmps16
  go_wp2_with fail
  go_ret
  exact ⟨rfl, rfl⟩

theorem nil_copy (w : World) : Calls Try.prog 18 #[.pointer none] w fun e w' => e = .returned (.pointer none) ∧ w' = w := by
  go_enter Try.func18, Try.ntmps18
  go_wp2_with fail
  go_ret
  exact ⟨rfl, rfl⟩

theorem nil_does (K A N : Int) (t : ByteArray) (x : Option Addr) (n c : Nat) (hK : 1 ≤ K ∧ K ≤ 7) (w : World) :
    Calls Try.prog 9 #[.pointer none, .agg #[.int .i64 K, .int .i64 A, .int .i64 N, .string t, .slice x n c]] w fun e w' => e = .returned (.int .i64 2) ∧ Below w.heap.size w w' := by
  have bl : Below w.heap.size w (w.alloc (.cells #[.int .i64 K, .int .i64 A, .int .i64 N, .string t, .slice x n c] 28)) := by repeat (first | with_reducible exact Below.refl _ _ | with_reducible refine Below.drew ?_ | with_reducible refine Below.alloc ?_ (by first | omega | (simp <;> omega)) _ | with_reducible refine Below.setCell ?_ (by first | omega | (simp <;> omega)) _)
  have BH := hide bl
  clear bl
  rcases (show K = 1 ∨ K = 2 ∨ K = 3 ∨ K = 4 ∨ K = 5 ∨ K = 6 ∨ K = 7 by omega) with rfl | rfl | rfl | rfl | rfl | rfl | rfl
  all_goals
    clear hK
    go_enter Try.func9, Try.ntmps9
    go_wp2_with fail
    first
      | refine (nil_append _ _ _).mono ?_
      | refine (nil_sync _ _).mono ?_
      | refine (nil_trim _ _ _).mono ?_
      | refine (nil_remove _ _).mono ?_
      | refine (nil_fuse _ _).mono ?_
      | refine (nil_cut _).mono ?_
      | refine (nil_start _ _ _ _).mono ?_
    rintro e w1 ⟨rfl, rfl⟩
    go_wp2_with fail
    go_ret
    exact ⟨rfl, BH.out⟩

set_option maxRecDepth 100000 in
set_option maxHeartbeats 2000000 in
theorem disknil_walk (K A N : Int) (t : ByteArray) (x : Option Addr) (n c : Nat) (w : World) :
    Calls Try.prog 5 #[.agg #[.int .i64 K, .int .i64 A, .int .i64 N, .string t, .slice x n c]] w fun e w' => e = .returned (.bool true) ∧ Below w.heap.size w w' := by
  have BN := Blk.new w #[.int .i64 K, .int .i64 A, .int .i64 N, .string t, .slice x n c] 28
  have bl : Below w.heap.size w (w.alloc (.cells #[.int .i64 K, .int .i64 A, .int .i64 N, .string t, .slice x n c] 28)) := by repeat (first | with_reducible exact Below.refl _ _ | with_reducible refine Below.drew ?_ | with_reducible refine Below.alloc ?_ (by first | omega | (simp <;> omega)) _ | with_reducible refine Below.setCell ?_ (by first | omega | (simp <;> omega)) _)
  have AW := hide (dawake_c (w.alloc (.cells #[.int .i64 K, .int .i64 A, .int .i64 N, .string t, .slice x n c] 28)))
  have BH := hide bl
  have NH := hide BN
  clear bl BN
  go_enter Try.func5, Try.ntmps5
  go_wp2_with fail
  refine AW.out.mono ?_
  rintro e w1 ⟨rfl, hb⟩
  have N1 := NH.out.below hb
  have B1 := hide (BH.out.trans (hb.mono (by simp)))
  have c0 := N1.cell 0
  have c1 := N1.cell 1
  have c2 := N1.cell 2
  have c3 := N1.cell 3
  have c4 := N1.cell 4
  have f0 := N1.frozen 0
  have hl := N1.lt
  have HN := hide N1
  clear AW NH BH hb N1
  obtain ⟨b, hbb⟩ : ∃ b, w.heap.size = b := ⟨_, rfl⟩
  have BB := hide hbb
  simp only [List.getElem?_toArray, List.getElem?_cons_zero, List.getElem?_cons_succ] at c0 c1 c2 c3 c4
  rw [hbb] at c0 c1 c2 c3 c4 f0 hl
  rw [hbb]
  clear hbb
  have st : Hid (Blk (w1.setCell ⟨b, 0, none⟩ (.int .i64 1)) b #[.int .i64 1, .int .i64 A, .int .i64 N, .string t, .slice x n c] 28 ∧ Below w.heap.size w (w1.setCell ⟨b, 0, none⟩ (.int .i64 1))) := by
    have q := HN.out
    rw [BB.out] at q
    exact ⟨q.put 0 _, B1.out.setCell (by show w.heap.size ≤ b; exact Nat.le_of_eq BB.out) _⟩
  have N0 : Hid (Blk w1 b #[.int .i64 K, .int .i64 A, .int .i64 N, .string t, .slice x n c] 28) := by
    have q := HN.out
    rw [BB.out] at q
    exact q
  clear HN BB
  by_cases h1 : K < 1
  · have hb : decide (K < 1) = true := decide_eq_true h1
    have N2 := hide st.out.1
    have B2 := hide st.out.2
    clear N0 B1 st h1
    go_wp2_with fail
    refine (nil_read _ _).mono ?_
    rintro e w2 ⟨rfl, rfl⟩
    go_wp2_with fail
    refine (nil_does _ _ _ _ _ _ _ (by decide) _).mono ?_
    rintro e w3 ⟨rfl, hb3⟩
    have N3 := N2.out.below hb3
    have d1 : w3.cell? ⟨b, 1, none⟩ = some (.int .i64 A) := N3.cell 1
    have B3 := hide (B2.out.trans (hb3.mono B2.out.size))
    clear N3 N2 B2 hb3 c0 c1 c2 c3 c4 f0 hl
    go_wp2_with fail
    refine (nil_safe _ _).mono ?_
    rintro e w4 ⟨rfl, rfl⟩
    go_wp2_with fail
    refine (nil_list _).mono ?_
    rintro e w5 ⟨rfl, rfl⟩
    go_wp2_with fail
    refine (nil_on _).mono ?_
    rintro e w6 ⟨rfl, rfl⟩
    go_wp2_with fail
    refine (nil_steps _).mono ?_
    rintro e w7 ⟨rfl, rfl⟩
    go_wp2_with fail
    refine (nil_copy _).mono ?_
    rintro e w8 ⟨rfl, rfl⟩
    go_wp2_with fail
    go_ret
    exact ⟨rfl, B3.out⟩
  · by_cases h2 : K > 7
    · have hb : decide (K > 7) = true := decide_eq_true h2
      have N2 := hide st.out.1
      have B2 := hide st.out.2
      clear N0 B1 st
      go_wp2_with fail
      refine (nil_read _ _).mono ?_
      rintro e w2 ⟨rfl, rfl⟩
      go_wp2_with fail
      refine (nil_does _ _ _ _ _ _ _ (by decide) _).mono ?_
      rintro e w3 ⟨rfl, hb3⟩
      have N3 := N2.out.below hb3
      have d1 : w3.cell? ⟨b, 1, none⟩ = some (.int .i64 A) := N3.cell 1
      have B3 := hide (B2.out.trans (hb3.mono B2.out.size))
      clear N3 N2 B2 hb3 c0 c1 c2 c3 c4 f0 hl
      go_wp2_with fail
      refine (nil_safe _ _).mono ?_
      rintro e w4 ⟨rfl, rfl⟩
      go_wp2_with fail
      refine (nil_list _).mono ?_
      rintro e w5 ⟨rfl, rfl⟩
      go_wp2_with fail
      refine (nil_on _).mono ?_
      rintro e w6 ⟨rfl, rfl⟩
      go_wp2_with fail
      refine (nil_steps _).mono ?_
      rintro e w7 ⟨rfl, rfl⟩
      go_wp2_with fail
      refine (nil_copy _).mono ?_
      rintro e w8 ⟨rfl, rfl⟩
      go_wp2_with fail
      go_ret
      exact ⟨rfl, B3.out⟩
    · have hK := hide (show 1 ≤ K ∧ K ≤ 7 by omega)
      have N2 := N0
      have B2 := B1
      clear N0 B1 st
      go_wp2_with fail
      refine (nil_read _ _).mono ?_
      rintro e w2 ⟨rfl, rfl⟩
      go_wp2_with fail
      refine (nil_does _ _ _ _ _ _ _ hK.out _).mono ?_
      rintro e w3 ⟨rfl, hb3⟩
      have N3 := N2.out.below hb3
      have d1 : w3.cell? ⟨b, 1, none⟩ = some (.int .i64 A) := N3.cell 1
      have B3 := hide (B2.out.trans (hb3.mono B2.out.size))
      clear N3 N2 B2 hb3 c0 c1 c2 c3 c4 f0 hl
      go_wp2_with fail
      refine (nil_safe _ _).mono ?_
      rintro e w4 ⟨rfl, rfl⟩
      go_wp2_with fail
      refine (nil_list _).mono ?_
      rintro e w5 ⟨rfl, rfl⟩
      go_wp2_with fail
      refine (nil_on _).mono ?_
      rintro e w6 ⟨rfl, rfl⟩
      go_wp2_with fail
      refine (nil_steps _).mono ?_
      rintro e w7 ⟨rfl, rfl⟩
      go_wp2_with fail
      refine (nil_copy _).mono ?_
      rintro e w8 ⟨rfl, rfl⟩
      go_wp2_with fail
      go_ret
      exact ⟨rfl, B3.out⟩

end Go.Proofs.Ytoppmpodiofhhaa
