/-
  The walk of FrameScans.
-/
import Derived.Test.YtahdgdoicpgcmaaDoorFmL
namespace Go.Proofs.YtahdgdoicpgcmaaDoor
open Go.ChangeShapes Go.WideShapes Go.ChangeAt Go.RowKit
set_option linter.unusedVariables false
set_option linter.unusedSimpArgs false

/-- Each list of lists of bytes is one of texts. -/
theorem datL_of : ∀ M : List (List UInt8), ∃ L : List ByteArray, M = datL L
  | [] => ⟨[], rfl⟩
  | r :: M => by
    obtain ⟨L, rfl⟩ := datL_of M
    exact ⟨⟨r.toArray⟩ :: L, by simp [datL]⟩

/-- One frame alone. -/
theorem whole_one {s : ByteArray} {L : List ByteArray} (h : scF gs s.data.toList = (datL L, s.size)) (hl : L.length = 1) :
    ∃ R : ByteArray, L = [R] ∧ hdF gs s.data.toList = some R.data.toList ∧ 8 + R.size = s.size := by
  match L, hl with
  | [R], _ =>
    have o := (scF_one gs s.data.toList R.data.toList).1 (by rw [h]; exact ⟨rfl, (len_of s).symm⟩)
    refine ⟨R, rfl, ?_, ?_⟩
    · have a := hd_fr gs o.2 []
      rw [List.append_nil, ← o.1] at a
      exact a
    · have a := congrArg List.length o.1
      rw [frF_length, len_of, len_of] at a
      exact a.symm

theorem whole_not {s : ByteArray} {L : List ByteArray} {N : Nat} (h : scF gs s.data.toList = (datL L, N)) (hl : ¬ (L.length = 1 ∧ N = s.size)) :
    ∀ R : ByteArray, hdF gs s.data.toList = some R.data.toList → 8 + R.size ≠ s.size := by
  intro R hd e
  apply hl
  obtain ⟨q1, q2, q3, q4, q5⟩ := hd_some hd
  rw [len_of, e, List.drop_of_length_le (by rw [len_of]; exact Nat.le_refl _), List.append_nil] at q5
  have o := (scF_one gs s.data.toList R.data.toList).2 ⟨q5, q1⟩
  rw [h] at o
  refine ⟨?_, by rw [← len_of]; exact o.2⟩
  have a := congrArg List.length o.1
  simpa [datL] using a

set_option maxRecDepth 100000 in
set_option maxHeartbeats 6400000 in
theorem framescans_walk (s : ByteArray) (hs : s.size ≤ maxLen) (w : World) (hT : RM w) :
    Calls Tryd.prog 4 #[.string s] w fun e w' => e = .returned (.bool true) ∧ Below w.heap.size w w' := by
  unfold maxLen at hs
  have AW := hide (awake_c w hT)
  have HT := hide hT
  clear hT
  by_cases h4 : 4000 < s.size
  · have c : (s.size : Int) > 4000 := by omega
    clear HT
    go_enter Tryd.func4, Tryd.ntmps4
    go_wp2_with fail
    refine AW.out.mono ?_
    rintro e w1 ⟨rfl, hb1⟩
    have B := hide hb1
    clear hb1 AW
    go_wp2
    go_ret
    exact ⟨by first | rfl | simp, B.out⟩
  have c4 : ¬ (s.size : Int) > 4000 := by omega
  obtain ⟨M, N, hMN⟩ : ∃ M N, scF gs s.data.toList = (M, N) := ⟨_, _, rfl⟩
  obtain ⟨L, rfl⟩ := datL_of M
  have CS := hide (fun w h => scan_c s (by omega) hMN w h)
  have CR := hide (fun w => rscan_c s (by omega) hMN w)
  have SM := hide (fun w v v' h h' => same_c (L := L) (v := v) (v' := v') w h h')
  by_cases hall : N = s.size
  · subst hall
    have CU := hide (fun w h => unpack_ok s (by omega) hMN w h)
    by_cases hone : L.length = 1
    · obtain ⟨R, rfl, hd, he⟩ := whole_one hMN hone
      have CW := hide (fun w h => whole_ok s (by omega) hd he w h)
      clear hMN hd he hone
      go_enter Tryd.func4, Tryd.ntmps4
      go_wp2_with fail
      refine AW.out.mono ?_
      rintro e w1 ⟨rfl, hb1⟩
      have B1 := hide hb1
      clear hb1 AW
      go_wp2_with fail
      refine (CS.out _ (HT.out.below B1.out)).mono ?_
      rintro e w2 ⟨v2, rfl, hS2, hb2⟩
      have B2 := hide (B1.out.trans (hb2.mono B1.out.size))
      have A2 := hide hS2
      clear hb2 hS2 B1 CS
      go_wp2_with fail
      refine (CR.out _).mono ?_
      rintro e w3 ⟨v3, rfl, hS3, hb3⟩
      have B3 := hide (B2.out.trans (hb3.mono B2.out.size))
      have A23 := hide (A2.out.below hb3)
      have A3 := hide hS3
      clear hb3 hS3 B2 A2 CR
      go_wp2_with fail
      refine (CU.out _ (HT.out.below B3.out)).mono ?_
      rintro e w4 ⟨v4, rfl, hS4, hb4⟩
      have A4 := hide hS4
      clear hS4
      have B4 := hide (B3.out.trans (hb4.mono B3.out.size))
      have A24 := hide (A23.out.below hb4)
      have A34 := hide (A3.out.below hb4)
      clear hb4 B3 A23 A3 CU
      go_wp2_with fail
      refine (CW.out _ (HT.out.below B4.out)).mono ?_
      rintro e w5 ⟨rfl, hb5⟩
      have B5 := hide (B4.out.trans (hb5.mono B4.out.size))
      have A25 := hide (A24.out.below hb5)
      have A35 := hide (A34.out.below hb5)
      have A45 := hide (A4.out.below hb5)
      clear A4
      clear hb5 B4 A24 A34 CW HT
      obtain ⟨x, cap, b, o, rfl, hx, hm, hc⟩ := A35.out
      have HX := hide hx
      have HC := hide hc
      have A35' := hide A35.out
      clear A35
      clear hx hc hm
      go_wp2_with fail
      refine (SM.out _ _ _ A25.out A35'.out).mono ?_
      rintro e w6 ⟨rfl, hb6⟩
      have B6 := hide (B5.out.trans (hb6.mono B5.out.size))
      have A36 := hide (A35'.out.below hb6)
      have A46 := hide (A45.out.below hb6)
      have c0 := (hb6.cell (p := ⟨b, o + 0, none⟩) (cell_ltF (HC.out 0 (by simp)))).trans (HC.out 0 (by simp))
      obtain rfl : x = some ⟨b, o, none⟩ := by rcases HX.out with h | h; exact h; exact absurd h (by simp)
      clear hb6 B5 A25 A35' A45 HX HC
      go_wp2_with fail
      refine (SM.out _ _ _ A46.out A36.out).mono ?_
      rintro e w7 ⟨rfl, hb7⟩
      have B7 := hide (B6.out.trans (hb7.mono B6.out.size))
      have d0 : w7.cell? ⟨b, o, none⟩ = some (.string R) := (hb7.cell (p := ⟨b, o + 0, none⟩) (cell_ltF c0)).trans c0
      clear hb7 B6 A46 A36 SM c0
      go_wp2
      go_ret
      exact ⟨by first | rfl | simp, B7.out⟩
    · have CW := hide (fun w h => whole_no s (by omega) (whole_not hMN (fun h => hone h.1)) w h)
      clear hMN
      go_enter Tryd.func4, Tryd.ntmps4
      go_wp2_with fail
      refine AW.out.mono ?_
      rintro e w1 ⟨rfl, hb1⟩
      have B1 := hide hb1
      clear hb1 AW
      go_wp2_with fail
      refine (CS.out _ (HT.out.below B1.out)).mono ?_
      rintro e w2 ⟨v2, rfl, hS2, hb2⟩
      have B2 := hide (B1.out.trans (hb2.mono B1.out.size))
      have A2 := hide hS2
      clear hb2 hS2 B1 CS
      go_wp2_with fail
      refine (CR.out _).mono ?_
      rintro e w3 ⟨v3, rfl, hS3, hb3⟩
      have B3 := hide (B2.out.trans (hb3.mono B2.out.size))
      have A23 := hide (A2.out.below hb3)
      have A3 := hide hS3
      clear hb3 hS3 B2 A2 CR
      go_wp2_with fail
      refine (CU.out _ (HT.out.below B3.out)).mono ?_
      rintro e w4 ⟨v4, rfl, hS4, hb4⟩
      have A4 := hide hS4
      clear hS4
      have B4 := hide (B3.out.trans (hb4.mono B3.out.size))
      have A24 := hide (A23.out.below hb4)
      have A34 := hide (A3.out.below hb4)
      clear hb4 B3 A23 A3 CU
      go_wp2_with fail
      refine (CW.out _ (HT.out.below B4.out)).mono ?_
      rintro e w5 ⟨rfl, hb5⟩
      have B5 := hide (B4.out.trans (hb5.mono B4.out.size))
      have A25 := hide (A24.out.below hb5)
      have A35 := hide (A34.out.below hb5)
      have A45 := hide (A4.out.below hb5)
      clear A4
      clear hb5 B4 A24 A34 CW HT
      obtain ⟨x, cap, b, o, rfl, hx, hm, hc⟩ := A35.out
      have HX := hide hx
      have HC := hide hc
      have A35' := hide A35.out
      clear A35
      obtain ⟨n, hn⟩ : ∃ n, L.length = n := ⟨_, rfl⟩
      rw [hn] at A35' ⊢
      have hn1 : ((n : Int) == 1) = false := by simp; omega
      clear hn
      clear hx hc hm
      go_wp2_with fail
      refine (SM.out _ _ _ A25.out A35'.out).mono ?_
      rintro e w6 ⟨rfl, hb6⟩
      have B6 := hide (B5.out.trans (hb6.mono B5.out.size))
      have A36 := hide (A35'.out.below hb6)
      have A46 := hide (A45.out.below hb6)
      clear hb6 B5 A25 A35' A45 HX HC
      go_wp2_with fail
      refine (SM.out _ _ _ A46.out A36.out).mono ?_
      rintro e w7 ⟨rfl, hb7⟩
      have B7 := hide (B6.out.trans (hb7.mono B6.out.size))
      clear hb7 B6 A46 A36 SM
      go_wp2
      go_ret
      exact ⟨by first | rfl | simp, B7.out⟩
  · have CU := hide (fun w h => unpack_no s (by omega) hMN hall w h)
    have CW := hide (fun w h => whole_no s (by omega) (whole_not hMN (fun h => hall h.2)) w h)
    have hN : ((N : Int) == (s.size : Int)) = false := by simp; omega
    clear hMN
    by_cases hone : L.length = 1
    · skip
      go_enter Tryd.func4, Tryd.ntmps4
      go_wp2_with fail
      refine AW.out.mono ?_
      rintro e w1 ⟨rfl, hb1⟩
      have B1 := hide hb1
      clear hb1 AW
      go_wp2_with fail
      refine (CS.out _ (HT.out.below B1.out)).mono ?_
      rintro e w2 ⟨v2, rfl, hS2, hb2⟩
      have B2 := hide (B1.out.trans (hb2.mono B1.out.size))
      have A2 := hide hS2
      clear hb2 hS2 B1 CS
      go_wp2_with fail
      refine (CR.out _).mono ?_
      rintro e w3 ⟨v3, rfl, hS3, hb3⟩
      have B3 := hide (B2.out.trans (hb3.mono B2.out.size))
      have A23 := hide (A2.out.below hb3)
      have A3 := hide hS3
      clear hb3 hS3 B2 A2 CR
      go_wp2_with fail
      refine (CU.out _ (HT.out.below B3.out)).mono ?_
      rintro e w4 ⟨rfl, hb4⟩
      have B4 := hide (B3.out.trans (hb4.mono B3.out.size))
      have A24 := hide (A23.out.below hb4)
      have A34 := hide (A3.out.below hb4)
      clear hb4 B3 A23 A3 CU
      go_wp2_with fail
      refine (CW.out _ (HT.out.below B4.out)).mono ?_
      rintro e w5 ⟨rfl, hb5⟩
      have B5 := hide (B4.out.trans (hb5.mono B4.out.size))
      have A25 := hide (A24.out.below hb5)
      have A35 := hide (A34.out.below hb5)
      clear hb5 B4 A24 A34 CW HT
      obtain ⟨x, cap, b, o, rfl, hx, hm, hc⟩ := A35.out
      have HX := hide hx
      have HC := hide hc
      have A35' := hide A35.out
      clear A35
      obtain ⟨n, hn⟩ : ∃ n, L.length = n := ⟨_, rfl⟩
      rw [hn] at A35' ⊢
      obtain rfl : n = 1 := by omega
      clear hx hc hm
      go_wp2_with fail
      refine (SM.out _ _ _ A25.out A35'.out).mono ?_
      rintro e w6 ⟨rfl, hb6⟩
      have B6 := hide (B5.out.trans (hb6.mono B5.out.size))
      clear hb6 B5 A25 A35' HX HC SM
      go_wp2
      go_ret
      exact ⟨by first | rfl | simp, B6.out⟩
    · skip
      go_enter Tryd.func4, Tryd.ntmps4
      go_wp2_with fail
      refine AW.out.mono ?_
      rintro e w1 ⟨rfl, hb1⟩
      have B1 := hide hb1
      clear hb1 AW
      go_wp2_with fail
      refine (CS.out _ (HT.out.below B1.out)).mono ?_
      rintro e w2 ⟨v2, rfl, hS2, hb2⟩
      have B2 := hide (B1.out.trans (hb2.mono B1.out.size))
      have A2 := hide hS2
      clear hb2 hS2 B1 CS
      go_wp2_with fail
      refine (CR.out _).mono ?_
      rintro e w3 ⟨v3, rfl, hS3, hb3⟩
      have B3 := hide (B2.out.trans (hb3.mono B2.out.size))
      have A23 := hide (A2.out.below hb3)
      have A3 := hide hS3
      clear hb3 hS3 B2 A2 CR
      go_wp2_with fail
      refine (CU.out _ (HT.out.below B3.out)).mono ?_
      rintro e w4 ⟨rfl, hb4⟩
      have B4 := hide (B3.out.trans (hb4.mono B3.out.size))
      have A24 := hide (A23.out.below hb4)
      have A34 := hide (A3.out.below hb4)
      clear hb4 B3 A23 A3 CU
      go_wp2_with fail
      refine (CW.out _ (HT.out.below B4.out)).mono ?_
      rintro e w5 ⟨rfl, hb5⟩
      have B5 := hide (B4.out.trans (hb5.mono B4.out.size))
      have A25 := hide (A24.out.below hb5)
      have A35 := hide (A34.out.below hb5)
      clear hb5 B4 A24 A34 CW HT
      obtain ⟨x, cap, b, o, rfl, hx, hm, hc⟩ := A35.out
      have HX := hide hx
      have HC := hide hc
      have A35' := hide A35.out
      clear A35
      obtain ⟨n, hn⟩ : ∃ n, L.length = n := ⟨_, rfl⟩
      rw [hn] at A35' ⊢
      have hn1 : ((n : Int) == 1) = false := by simp; omega
      clear hn
      clear hx hc hm
      go_wp2_with fail
      refine (SM.out _ _ _ A25.out A35'.out).mono ?_
      rintro e w6 ⟨rfl, hb6⟩
      have B6 := hide (B5.out.trans (hb6.mono B5.out.size))
      clear hb6 B5 A25 A35' HX HC SM
      go_wp2
      go_ret
      exact ⟨by first | rfl | simp, B6.out⟩
end Go.Proofs.YtahdgdoicpgcmaaDoor
