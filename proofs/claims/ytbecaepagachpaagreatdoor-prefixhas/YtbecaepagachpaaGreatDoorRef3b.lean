/-
  The reference's Addr and Filled.
-/
import Derived.Test.YtbecaepagachpaaGreatDoorRef3
namespace Go.Proofs.YtbecaepagachpaaGreatDoor
open Go.ChangeShapes Go.WideShapes Go.ChangeAt Go.RowKit
set_option linter.unusedVariables false
set_option linter.unusedSimpArgs false

set_option maxRecDepth 100000 in
set_option maxHeartbeats 1600000 in
theorem raddr_32 (v : Bool) {c : Nat} (hc : c < 2 ^ 32) (g cap : Nat) (hcap : 32 ≤ cap) (hm : cap ≤ maxLen) (w : World) (hr : Rw w g 32 (fun i => bitN c (32 - 1 - i))) :
    Calls Tryz.prog 56 #[.bool v, .slice (some ⟨g, 0, none⟩) 32 cap] w fun e w' => ∃ h l, e = .returned (av v h l) ∧ IsNum h l c ∧ Below w.heap.size w w' := by
  obtain ⟨i0, hi, hz0, hz1, hz2⟩ := info_parts infoInt
  have hgl := hr.1
  go_enter Tryz.func56, Tryz.ntmps56
  go_wp2_with fail
  obtain ⟨w1, hw1⟩ : ∃ w1, w1 = w.alloc (.cells #[.bool false, .int .u64 0, .int .u64 0] 26) := ⟨_, rfl⟩
  have K1 : Blk w1 w.heap.size #[.bool false, .int .u64 0, .int .u64 0] 26 := by rw [hw1]; exact Blk.new _ _ _
  have B1 : Below w.heap.size w w1 := by rw [hw1]; exact (Below.refl _ _).alloc (Nat.le_refl _) _
  have hr1 : Rw w1 g 32 (fun i => bitN c (32 - 1 - i)) := by rw [hw1]; exact hr.alloc _
  have OW0 : (w1.alloc (.cells #[] 3)).ownsRow w1.heap.size 3 1 (.slice (some ⟨w1.heap.size, 0, none⟩) 0 0) 0 [] := by
    have := World.ownsRow_made (base := w1.heap.size) (e := 3) (size := 1) w1 #[] 0 (Nat.le_refl _) (by unfold maxLen; omega) (by simp)
    simpa using this
  have B2 : Below w1.heap.size w1 (w1.alloc (.cells #[] 3)) := (Below.refl _ _).alloc (Nat.le_refl _) _
  rw [← hw1]
  have hgl1 := hr1.1
  have hs1 : Hid (w1.heap.size = w.heap.size + 1) := by show _ = _; rw [hw1]; simp
  clear hw1 hr
  go_loopw [5, 6] (fun u i wr => ∃ (j : Nat) (K : Int), j ≤ 32 ∧ i = .int .i64 K ∧ Hid (K = 32 - 1 - (j : Int)) ∧ -1 ≤ K ∧ K ≤ 32 - 1 ∧ wr.ownsRow w1.heap.size 3 1 u j ((bitsL c j).map (Value.int .i64)) ∧ Below w1.heap.size w1 wr) (fun _ i _ => (intOf i + 1).toNat)
  case atStart => exact ⟨0, 32 - 1, by omega, rfl, (by simp : (32 - 1 : Int) = 32 - 1 - ((0 : Nat) : Int)), by omega, by omega, by rw [← hs1.out]; exact OW0, B2⟩
  case round =>
    clear OW0 B2
    obtain ⟨j, K, hj, rfl, hK, K0, K1', hown, hb⟩ := hrel
    have hs := hb.size
    have hK' := hK.out
    by_cases hlt : j < 32
    · have Kp : 0 ≤ K := by omega
      have cell : wr.cell? ⟨g, K.toNat, none⟩ = some (.int .i64 ((bitN c j : Nat) : Int)) := by
        rw [(hb.cell (p := ⟨g, K.toNat, none⟩) hgl1), hr1.2.1 K.toNat (by omega)]; show some (Value.int .i64 ((bitN c (32 - 1 - K.toNat) : Nat) : Int)) = _; rw [show 32 - 1 - K.toNat = j by omega]
      obtain ⟨bb, hbb⟩ : ∃ bb : Int, bb = ((bitN c j : Nat) : Int) := ⟨_, rfl⟩
      rw [← hbb] at cell
      have hbbH : Hid (bb = ((bitN c j : Nat) : Int)) := hbb
      clear hbb hK'
      go_wp2_with (first | (at_builtin; refine wpList_append_own _ rfl _ _ 54 rfl w1.heap.size 3 i0 (.int .i64 0) 1 8 Tryz.underlying54 hi hz0 hz1 hz2 rfl (by decide) _ _ _ rfl (hown.alloc _) ⟨wr.heap.size, 0, none⟩ 1 1 [.int .i64 bb] rfl rfl (new_one _ _ _) (by intro u hu; simp at hu; subst hu; rfl) (by unfold maxLen; omega) (by omega) (by simp; omega) ?_))
      intro v' w4 hown4 hgrow _
      have hb5 := below_grown hb hs hown hgrow
      clear hown hgrow
      go_wp2
      go_roundw
      case measure => simp [intOf]; omega
      case rel =>
        have hK' := hK.out
        refine ⟨j + 1, K - 1, by omega, rfl, by show _ = _; omega, by omega, by omega, ?_, hb5⟩
        rw [hbbH.out] at hown4
        simpa [bitsL] using hown4
    · obtain rfl : j = 32 := by omega
      have Kn : K = -1 := by omega
      obtain ⟨g', cap', rfl, hg', hcap', hm', hRw⟩ := bitRow_of (by omega) hown
      have K2 : Blk wr w.heap.size #[.bool false, .int .u64 0, .int .u64 0] 26 := (hb.block w.heap.size (by have := hs1.out; omega)).trans K1
      have hB : Below w.heap.size w wr := B1.trans (hb.mono B1.size)
      have NW := num_w g' 32 cap' c (by omega) hc hcap' hm' wr hRw
      clear hown hb hs hK hK' hRw hr1 hg' hm' hcap'
      subst Kn
      go_wp2_with fail
      refine NW.mono ?_
      rintro e w5 ⟨h, l, rfl, hn, hb5⟩
      have hnH : Hid (IsNum h l c) := hn
      have hB5 := hB.trans (hb5.mono hB.size)
      obtain ⟨r0, r1, r2, r3, r4, r5, r6⟩ := (K2.below hb5).three
      clear hn hb5 NW hB K2
      go_wp2
      refine bodyPost_ret (v := av v h l) (by simp [results, Tryz.results56, go_sem, World.cell?_setCell_same', World.cell?_setCell_other, *]) rfl ⟨h, l, rfl, hnH.out, by repeat (first | with_reducible exact Below.refl _ _ | with_reducible refine Below.drew ?_ | with_reducible refine Below.alloc ?_ (by first | omega | (simp <;> omega)) _ | with_reducible refine Below.setCell ?_ (by first | omega | (simp <;> omega)) _ | with_reducible refine Below.trans ?_ (Below.mono hB5 (by first | omega | (simp <;> omega))))⟩

set_option maxRecDepth 100000 in
set_option maxHeartbeats 1600000 in
theorem raddr_128 (v : Bool) {c : Nat} (hc : c < 2 ^ 128) (g cap : Nat) (hcap : 128 ≤ cap) (hm : cap ≤ maxLen) (w : World) (hr : Rw w g 128 (fun i => bitN c (128 - 1 - i))) :
    Calls Tryz.prog 56 #[.bool v, .slice (some ⟨g, 0, none⟩) 128 cap] w fun e w' => ∃ h l, e = .returned (av v h l) ∧ IsNum h l c ∧ Below w.heap.size w w' := by
  obtain ⟨i0, hi, hz0, hz1, hz2⟩ := info_parts infoInt
  have hgl := hr.1
  go_enter Tryz.func56, Tryz.ntmps56
  go_wp2_with fail
  obtain ⟨w1, hw1⟩ : ∃ w1, w1 = w.alloc (.cells #[.bool false, .int .u64 0, .int .u64 0] 26) := ⟨_, rfl⟩
  have K1 : Blk w1 w.heap.size #[.bool false, .int .u64 0, .int .u64 0] 26 := by rw [hw1]; exact Blk.new _ _ _
  have B1 : Below w.heap.size w w1 := by rw [hw1]; exact (Below.refl _ _).alloc (Nat.le_refl _) _
  have hr1 : Rw w1 g 128 (fun i => bitN c (128 - 1 - i)) := by rw [hw1]; exact hr.alloc _
  have OW0 : (w1.alloc (.cells #[] 3)).ownsRow w1.heap.size 3 1 (.slice (some ⟨w1.heap.size, 0, none⟩) 0 0) 0 [] := by
    have := World.ownsRow_made (base := w1.heap.size) (e := 3) (size := 1) w1 #[] 0 (Nat.le_refl _) (by unfold maxLen; omega) (by simp)
    simpa using this
  have B2 : Below w1.heap.size w1 (w1.alloc (.cells #[] 3)) := (Below.refl _ _).alloc (Nat.le_refl _) _
  rw [← hw1]
  have hgl1 := hr1.1
  have hs1 : Hid (w1.heap.size = w.heap.size + 1) := by show _ = _; rw [hw1]; simp
  clear hw1 hr
  go_loopw [5, 6] (fun u i wr => ∃ (j : Nat) (K : Int), j ≤ 128 ∧ i = .int .i64 K ∧ Hid (K = 128 - 1 - (j : Int)) ∧ -1 ≤ K ∧ K ≤ 128 - 1 ∧ wr.ownsRow w1.heap.size 3 1 u j ((bitsL c j).map (Value.int .i64)) ∧ Below w1.heap.size w1 wr) (fun _ i _ => (intOf i + 1).toNat)
  case atStart => exact ⟨0, 128 - 1, by omega, rfl, (by simp : (128 - 1 : Int) = 128 - 1 - ((0 : Nat) : Int)), by omega, by omega, by rw [← hs1.out]; exact OW0, B2⟩
  case round =>
    clear OW0 B2
    obtain ⟨j, K, hj, rfl, hK, K0, K1', hown, hb⟩ := hrel
    have hs := hb.size
    have hK' := hK.out
    by_cases hlt : j < 128
    · have Kp : 0 ≤ K := by omega
      have cell : wr.cell? ⟨g, K.toNat, none⟩ = some (.int .i64 ((bitN c j : Nat) : Int)) := by
        rw [(hb.cell (p := ⟨g, K.toNat, none⟩) hgl1), hr1.2.1 K.toNat (by omega)]; show some (Value.int .i64 ((bitN c (128 - 1 - K.toNat) : Nat) : Int)) = _; rw [show 128 - 1 - K.toNat = j by omega]
      obtain ⟨bb, hbb⟩ : ∃ bb : Int, bb = ((bitN c j : Nat) : Int) := ⟨_, rfl⟩
      rw [← hbb] at cell
      have hbbH : Hid (bb = ((bitN c j : Nat) : Int)) := hbb
      clear hbb hK'
      go_wp2_with (first | (at_builtin; refine wpList_append_own _ rfl _ _ 54 rfl w1.heap.size 3 i0 (.int .i64 0) 1 8 Tryz.underlying54 hi hz0 hz1 hz2 rfl (by decide) _ _ _ rfl (hown.alloc _) ⟨wr.heap.size, 0, none⟩ 1 1 [.int .i64 bb] rfl rfl (new_one _ _ _) (by intro u hu; simp at hu; subst hu; rfl) (by unfold maxLen; omega) (by omega) (by simp; omega) ?_))
      intro v' w4 hown4 hgrow _
      have hb5 := below_grown hb hs hown hgrow
      clear hown hgrow
      go_wp2
      go_roundw
      case measure => simp [intOf]; omega
      case rel =>
        have hK' := hK.out
        refine ⟨j + 1, K - 1, by omega, rfl, by show _ = _; omega, by omega, by omega, ?_, hb5⟩
        rw [hbbH.out] at hown4
        simpa [bitsL] using hown4
    · obtain rfl : j = 128 := by omega
      have Kn : K = -1 := by omega
      obtain ⟨g', cap', rfl, hg', hcap', hm', hRw⟩ := bitRow_of (by omega) hown
      have K2 : Blk wr w.heap.size #[.bool false, .int .u64 0, .int .u64 0] 26 := (hb.block w.heap.size (by have := hs1.out; omega)).trans K1
      have hB : Below w.heap.size w wr := B1.trans (hb.mono B1.size)
      have NW := num_w g' 128 cap' c (by omega) hc hcap' hm' wr hRw
      clear hown hb hs hK hK' hRw hr1 hg' hm' hcap'
      subst Kn
      go_wp2_with fail
      refine NW.mono ?_
      rintro e w5 ⟨h, l, rfl, hn, hb5⟩
      have hnH : Hid (IsNum h l c) := hn
      have hB5 := hB.trans (hb5.mono hB.size)
      obtain ⟨r0, r1, r2, r3, r4, r5, r6⟩ := (K2.below hb5).three
      clear hn hb5 NW hB K2
      go_wp2
      refine bodyPost_ret (v := av v h l) (by simp [results, Tryz.results56, go_sem, World.cell?_setCell_same', World.cell?_setCell_other, *]) rfl ⟨h, l, rfl, hnH.out, by repeat (first | with_reducible exact Below.refl _ _ | with_reducible refine Below.drew ?_ | with_reducible refine Below.alloc ?_ (by first | omega | (simp <;> omega)) _ | with_reducible refine Below.setCell ?_ (by first | omega | (simp <;> omega)) _ | with_reducible refine Below.trans ?_ (Below.mono hB5 (by first | omega | (simp <;> omega))))⟩

end Go.Proofs.YtbecaepagachpaaGreatDoor
