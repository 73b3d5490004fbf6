/-
  The laws' examples (awake); the walk of FrameIs.
-/
import Derived.Test.YtahdgdoicpgcmaaDoorFmD
namespace Go.Proofs.YtahdgdoicpgcmaaDoor
open Go.ChangeShapes Go.WideShapes Go.ChangeAt Go.RowKit
set_option linter.unusedVariables false
set_option linter.unusedSimpArgs false

/-- The empty text. -/
def eT : ByteArray := ⟨#[]⟩

theorem awake_scan : scF gs (frB eT ++ ⟨#[120]⟩).data.toList = (datL [eT], 8) := by
  rw [app_list, frB_list]
  have a := scF_pk gs [[]] (fun s hs => by simp at hs; subst hs; simp) [120]
  have b : scF gs [120] = ([], 0) := scF_none (by unfold hdF; rw [if_pos (by decide)])
  rw [b] at a
  have c : pkF gs [[]] = frF gs [] := by rw [pkF_cons, pkF_nil, List.append_nil]
  rw [c, frF_length] at a
  exact a

theorem awake_head : (frB eT).extract 0 4 = ⟨#[0, 0, 0, 0]⟩ := by
  apply bytes_eqF
  rw [ext_seg, frB_list]
  rfl

set_option maxRecDepth 100000 in
set_option maxHeartbeats 1600000 in
theorem awake_c (w : World) (hT : RM w) : Calls Tryd.prog 6 #[] w fun e w' => e = .returned (.bool true) ∧ Below w.heap.size w w' := by
  obtain ⟨T, hTT⟩ : ∃ T, frB eT = T := ⟨_, rfl⟩
  have sc := awake_scan
  have hh := awake_head
  have sz := frB_size eT
  rw [hTT] at sc hh sz
  have z8 : T.size = 8 := sz
  have C1 := hide (of_ok eT (by decide) hTT w hT)
  have C2 := hide (fun w' (h : RM w') => scan_c (T ++ ⟨#[120]⟩) (by rw [ByteArray.size_append, z8]; decide) sc w' h)
  have HT := hide hT
  unfold eT at C1
  have e4 : (T.extract 0 4).toList = (⟨#[0, 0, 0, 0]⟩ : ByteArray).toList := by rw [hh]
  clear sc sz hTT hT
  go_enter Tryd.func6, Tryd.ntmps6
  go_wp2_with fail
  refine C1.out.mono ?_
  rintro e w1 ⟨rfl, hb1⟩
  have D2 := hide (C2.out w1 (HT.out.below hb1))
  have HB := hide hb1
  clear hb1 C1 C2 HT
  go_wp2_with fail
  refine D2.out.mono ?_
  rintro e w2 ⟨v, rfl, hS, hb2⟩
  have B := hide (HB.out.trans (hb2.mono HB.out.size))
  obtain ⟨x, cap, b, o, rfl, _⟩ := hS
  clear hb2 D2 HB
  go_wp2
  go_ret
  exact ⟨by first | rfl | simp, B.out⟩

set_option maxRecDepth 100000 in
set_option maxHeartbeats 3200000 in
theorem frameis_walk (s : ByteArray) (hs : s.size ≤ maxLen) (w : World) (hT : RM w) :
    Calls Tryd.prog 3 #[.string s] w fun e w' => e = .returned (.bool true) ∧ Below w.heap.size w w' := by
  unfold maxLen at hs
  have AW := hide (awake_c w hT)
  have HT := hide hT
  clear hT
  by_cases h7 : 70000 < s.size
  · have c : (s.size : Int) > 70000 := by omega
    clear HT
    go_enter Tryd.func3, Tryd.ntmps3
    go_wp2_with fail
    refine AW.out.mono ?_
    rintro e w1 ⟨rfl, hb1⟩
    have B := hide hb1
    clear hb1 AW
    go_wp2
    go_ret
    exact ⟨by first | rfl | simp, B.out⟩
  have c7 : ¬ (s.size : Int) > 70000 := by omega
  have CZ := hide (fun w => size_c s (by omega) w)
  by_cases hl : 65536 < s.size
  · have c : (s.size : Int) > 65536 := by omega
    have CO := hide (fun w => of_long s (by unfold maxLen; omega) hl w)
    have cz : (((8 + s.size : Nat) : Int) != 8 + (s.size : Int)) = false := by simp
    have nz : ((8 + s.size : Nat) : Int) = 8 + (s.size : Int) := by omega
    rw [nz] at CZ
    clear HT nz cz
    go_enter Tryd.func3, Tryd.ntmps3
    go_wp2_with fail
    refine AW.out.mono ?_
    rintro e w1 ⟨rfl, hb1⟩
    have B := hide hb1
    clear hb1 AW
    go_wp2_with fail
    refine (CO.out _).mono ?_
    rintro e w2 ⟨rfl, rfl⟩
    clear CO
    go_wp2_with fail
    refine (CZ.out _).mono ?_
    rintro e w3 ⟨rfl, rfl⟩
    clear CZ
    go_wp2
    go_ret
    exact ⟨by first | rfl | simp, B.out⟩
  · have c : ¬ (s.size : Int) > 65536 := by omega
    obtain ⟨T, hTT⟩ : ∃ T, frB s = T := ⟨_, rfl⟩
    have sz := frB_size s
    have hd : hdF gs T.data.toList = some s.data.toList := by
      rw [← hTT, frB_list]
      have a := hd_fr gs (s := s.data.toList) (by rw [len_of]; omega) []
      rwa [List.append_nil] at a
    rw [hTT] at sz
    have CO := hide (fun w h => of_ok s (by omega) hTT w h)
    have CW := hide (fun w h => whole_ok T (by omega) hd sz.symm w h)
    have CR := hide (fun w => rof_c s (by omega) hTT w)
    have nz : ((8 + s.size : Nat) : Int) = 8 + (s.size : Int) := by omega
    rw [nz] at CZ
    clear hd sz hTT nz
    go_enter Tryd.func3, Tryd.ntmps3
    go_wp2_with fail
    refine AW.out.mono ?_
    rintro e w1 ⟨rfl, hb1⟩
    have B := hide hb1
    clear hb1 AW
    go_wp2_with fail
    refine (CO.out _ (HT.out.below B.out)).mono ?_
    rintro e w2 ⟨rfl, hb2⟩
    have B2 := hide (B.out.trans (hb2.mono B.out.size))
    clear hb2 B CO
    go_wp2_with fail
    refine (CZ.out _).mono ?_
    rintro e w3 ⟨rfl, rfl⟩
    clear CZ
    go_wp2_with fail
    refine (CW.out _ (HT.out.below B2.out)).mono ?_
    rintro e w4 ⟨rfl, hb4⟩
    have B4 := hide (B2.out.trans (hb4.mono B2.out.size))
    clear hb4 B2 CW HT
    go_wp2_with fail
    refine (CR.out _).mono ?_
    rintro e w5 ⟨rfl, hb5⟩
    have B5 := hide (B4.out.trans (hb5.mono B4.out.size))
    clear hb5 B4 CR
    go_wp2
    go_ret
    exact ⟨by first | rfl | simp, B5.out⟩
end Go.Proofs.YtahdgdoicpgcmaaDoor
