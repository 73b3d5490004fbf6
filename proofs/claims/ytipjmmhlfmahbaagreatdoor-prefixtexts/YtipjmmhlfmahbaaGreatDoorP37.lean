/-
  Texts Ref3 of the proof.
-/
import Derived.Test.YtipjmmhlfmahbaaGreatDoorP1
import Derived.Test.YtipjmmhlfmahbaaGreatDoorP34
import Derived.Test.YtipjmmhlfmahbaaGreatDoorP26

namespace Go.Proofs.YtipjmmhlfmahbaaGreatDoor
open Go.ChangeShapes Go.WideShapes Go.ChangeAt Go.RowKit
set_option linter.unusedVariables false
set_option linter.unusedSimpArgs false

/-- The bits, the highest first: k of them, of W. -/
def topL (a W : Nat) : Nat → List Int
  | 0 => []
  | k + 1 => topL a W k ++ [((bitN a (W - 1 - k) : Nat) : Int)]

theorem topL_length (a W : Nat) : ∀ k, (topL a W k).length = k
  | 0 => rfl
  | k + 1 => by simp [topL, topL_length a W k]

theorem topL_get (a W : Nat) : ∀ (k i : Nat), i < k → (topL a W k)[i]? = some ((bitN a (W - 1 - i) : Nat) : Int)
  | 0, _, h => by omega
  | k + 1, i, h => by
    have l := topL_length a W k
    by_cases e : i = k
    · subst e
      rw [topL, List.getElem?_append_right (by omega), l, Nat.sub_self]; rfl
    · rw [topL, List.getElem?_append_left (by omega), topL_get a W k i (by omega)]

/-- A row of noughts and ones that may be written to. -/
def Rw (w : World) (g W : Nat) (f : Nat → Nat) : Prop := g < w.heap.size ∧ (∀ i, i < W → w.cell? ⟨g, i, none⟩ = some (.int .i64 ((f i : Nat) : Int))) ∧ ∀ i, w.frozen? ⟨g, i, none⟩ = false

theorem Rw.below {W w1 : World} {g n : Nat} {f : Nat → Nat} (x : Rw W g n f) (hb : Below W.heap.size W w1) : Rw w1 g n f :=
  ⟨Nat.lt_of_lt_of_le x.1 hb.size, fun i h => ((bcell hb).1 g i x.1).trans (x.2.1 i h), fun i => ((bcell hb).2 g i x.1).trans (x.2.2 i)⟩

theorem Rw.alloc {W : World} {g n : Nat} {f : Nat → Nat} (x : Rw W g n f) (o : Obj) : Rw (W.alloc o) g n f := x.below ((Below.refl _ _).alloc (Nat.le_refl _) _)

theorem Rw.drew {W : World} {g n : Nat} {f : Nat → Nat} (x : Rw W g n f) : Rw W.drew g n f := x

set_option maxRecDepth 100000 in
set_option maxHeartbeats 1600000 in
theorem row_32 {h l : Int} {a : Nat} (ha : IsNum h l a) (w : World) :
    Calls Tryz.prog 49 #[av false h l] w fun e w' => ∃ g cap, e = .returned (.slice (some ⟨g, 0, none⟩) 32 cap) ∧ w.heap.size ≤ g ∧ 32 ≤ cap ∧ cap ≤ maxLen ∧ Rw w' g 32 (fun i => bitN a (32 - 1 - i)) ∧ Below w.heap.size w w' := by
  obtain ⟨i0, hi, hz0, hz1, hz2⟩ := info_parts infoInt
  go_enter Tryz.func49, Tryz.ntmps49
  go_wp2_with fail
  refine (bits_c ha _).mono ?_
  rintro e w1 ⟨g, cap, rfl, hg, BR, hb1⟩
  obtain ⟨hc1, hf1⟩ := bcell hb1
  have hz_w1_0 : w.heap.size < w1.heap.size   := (by have := hb1.size; first | omega | (simp at this; omega))
  have B1 : Below w.heap.size w w1 := by repeat (first | with_reducible exact Below.refl _ _ | with_reducible refine Below.drew ?_ | with_reducible refine Below.alloc ?_ (by first | omega | (simp <;> omega)) _ | with_reducible refine Below.setCell ?_ (by first | omega | (simp <;> omega)) _ | with_reducible refine Below.trans ?_ (Below.mono hb1 (by first | omega | (simp <;> omega))))
  have bx : w1.cell? ⟨w.heap.size, 0, none⟩ = some (.bool false) ∧ w1.cell? ⟨w.heap.size, 1, none⟩ = some (.int .u64 h) ∧ w1.cell? ⟨w.heap.size, 2, none⟩ = some (.int .u64 l) := by simp [*]
  obtain ⟨bx0, bx1, bx2⟩ := bx
  clear hc1 hf1 hb1 ha
  go_wp2_with fail
  refine (rwidth_c false 32 rfl h l _).mono ?_
  rintro e w2 ⟨rfl, hb2⟩
  have OW0 : w2.ownsRow w1.heap.size 3 1 (.slice (some ⟨w1.heap.size, 0, none⟩) 0 0) 0 [] := by
    have := World.ownsRow_made (base := w1.heap.size) (e := 3) (size := 1) w1 #[] 0 (Nat.le_refl _) (by unfold maxLen; omega) (by simp)
    exact own_below (by simpa using this) hb2
  have B2 : Below w1.heap.size w1 w2 := ((Below.refl _ _).alloc (Nat.le_refl _) _).trans (hb2.mono (by simp))
  have hgl := BR.1
  clear hb2
  go_wp2_with fail
  go_loopw [4, 5] (fun u i wr => ∃ (j : Nat) (K : Int), j ≤ 32 ∧ i = .int .i64 K ∧ Hid (K = 32 - 1 - (j : Int)) ∧ -1 ≤ K ∧ K ≤ 32 - 1 ∧ wr.ownsRow w1.heap.size 3 1 u j ((topL a 32 j).map (Value.int .i64)) ∧ Below w1.heap.size w1 wr) (fun _ i _ => (intOf i + 1).toNat)
  case atStart => exact ⟨0, 32 - 1, by omega, rfl, (by simp : (32 - 1 : Int) = 32 - 1 - ((0 : Nat) : Int)), by omega, by omega, OW0, B2⟩
  case round =>
    clear OW0 B2
    obtain ⟨j, K, hj, rfl, hK, K0, K1, hown, hb⟩ := hrel
    have hs := hb.size
    have hK' := hK.out
    by_cases hlt : j < 32
    · have Kp : 0 ≤ K := by omega
      have BRr : BitRow wr g 128 a := ⟨by omega, fun i h => (hb.cell (p := ⟨g, i, none⟩) hgl).trans (BR.2 i h)⟩
      have cell : wr.cell? ⟨g, K.toNat, none⟩ = some (.int .i64 ((bitN a (32 - 1 - j) : Nat) : Int)) := by
        rw [BRr.2 K.toNat (by omega), show K.toNat = 32 - 1 - j by omega]
      obtain ⟨bb, hbb⟩ : ∃ bb : Int, bb = ((bitN a (32 - 1 - j) : Nat) : Int) := ⟨_, rfl⟩
      rw [← hbb] at cell
      have hbbH : Hid (bb = ((bitN a (32 - 1 - j) : Nat) : Int)) := hbb
      clear hbb hK'
      go_wp2_with (first | (at_builtin; refine wpList_append_own _ rfl _ _ 69 rfl w1.heap.size 3 i0 (.int .i64 0) 1 8 Tryz.underlying69 hi hz0 hz1 hz2 rfl (by decide) _ _ _ rfl (hown.alloc _) ⟨wr.heap.size, 0, none⟩ 1 1 [.int .i64 bb] rfl rfl (new_one _ _ _) (by intro u hu; simp at hu; subst hu; rfl) (by unfold maxLen; omega) (by omega) (by simp; omega) ?_))
      intro v' w4 hown4 hgrow _
      have hb5 := below_grown hb hs hown hgrow
      clear hown hgrow BRr
      go_wp2
      go_roundw
      case measure => simp [intOf]; omega
      case rel =>
        have hK' := hK.out
        refine ⟨j + 1, K - 1, by omega, rfl, by show _ = _; omega, by omega, by omega, ?_, hb5⟩
        rw [hbbH.out] at hown4
        simpa [topL] using hown4
    · obtain rfl : j = 32 := by omega
      have Kn : K = -1 := by omega
      have hB : Below w.heap.size w wr := B1.trans (hb.mono B1.size)
      obtain ⟨g', cap', rfl, hg', hcap', hm', hfr⟩ : ∃ g cap, u4 = .slice (some ⟨g, 0, none⟩) 32 cap ∧ w1.heap.size ≤ g ∧ 32 ≤ cap ∧ cap ≤ maxLen ∧ g < wr.heap.size := by
        rcases hown.2 with ⟨rfl, h0⟩ | ⟨g, cap, cur, rfl, h1, hh, hc, hmm, _⟩
        · omega
        · exact ⟨g, cap, rfl, h1, hc, by first | exact hmm | omega, (Array.getElem?_eq_some_iff.1 hh).1⟩
      have hRw : Rw wr g' 32 (fun i => bitN a (32 - 1 - i)) := ⟨hfr, fun i h => by
        rw [World.ownsRow.cellAt hown i (by omega), List.getElem?_map, topL_get a 32 32 i h]; rfl, fun i => World.ownsRow.frozenAt hown i⟩
      clear hown hb hs hK hK'
      subst Kn
      go_wp2
      go_ret
      exact ⟨g', cap', rfl, Nat.le_trans B1.size hg', hcap', hm', hRw, hB⟩

set_option maxRecDepth 100000 in
set_option maxHeartbeats 1600000 in
theorem row_128 {h l : Int} {a : Nat} (ha : IsNum h l a) (w : World) :
    Calls Tryz.prog 49 #[av true h l] w fun e w' => ∃ g cap, e = .returned (.slice (some ⟨g, 0, none⟩) 128 cap) ∧ w.heap.size ≤ g ∧ 128 ≤ cap ∧ cap ≤ maxLen ∧ Rw w' g 128 (fun i => bitN a (128 - 1 - i)) ∧ Below w.heap.size w w' := by
  obtain ⟨i0, hi, hz0, hz1, hz2⟩ := info_parts infoInt
  go_enter Tryz.func49, Tryz.ntmps49
  go_wp2_with fail
  refine (bits_c ha _).mono ?_
  rintro e w1 ⟨g, cap, rfl, hg, BR, hb1⟩
  obtain ⟨hc1, hf1⟩ := bcell hb1
  have hz_w1_0 : w.heap.size < w1.heap.size   := (by have := hb1.size; first | omega | (simp at this; omega))
  have B1 : Below w.heap.size w w1 := by repeat (first | with_reducible exact Below.refl _ _ | with_reducible refine Below.drew ?_ | with_reducible refine Below.alloc ?_ (by first | omega | (simp <;> omega)) _ | with_reducible refine Below.setCell ?_ (by first | omega | (simp <;> omega)) _ | with_reducible refine Below.trans ?_ (Below.mono hb1 (by first | omega | (simp <;> omega))))
  have bx : w1.cell? ⟨w.heap.size, 0, none⟩ = some (.bool true) ∧ w1.cell? ⟨w.heap.size, 1, none⟩ = some (.int .u64 h) ∧ w1.cell? ⟨w.heap.size, 2, none⟩ = some (.int .u64 l) := by simp [*]
  obtain ⟨bx0, bx1, bx2⟩ := bx
  clear hc1 hf1 hb1 ha
  go_wp2_with fail
  refine (rwidth_c true 128 rfl h l _).mono ?_
  rintro e w2 ⟨rfl, hb2⟩
  have OW0 : w2.ownsRow w1.heap.size 3 1 (.slice (some ⟨w1.heap.size, 0, none⟩) 0 0) 0 [] := by
    have := World.ownsRow_made (base := w1.heap.size) (e := 3) (size := 1) w1 #[] 0 (Nat.le_refl _) (by unfold maxLen; omega) (by simp)
    exact own_below (by simpa using this) hb2
  have B2 : Below w1.heap.size w1 w2 := ((Below.refl _ _).alloc (Nat.le_refl _) _).trans (hb2.mono (by simp))
  have hgl := BR.1
  clear hb2
  go_wp2_with fail
  go_loopw [4, 5] (fun u i wr => ∃ (j : Nat) (K : Int), j ≤ 128 ∧ i = .int .i64 K ∧ Hid (K = 128 - 1 - (j : Int)) ∧ -1 ≤ K ∧ K ≤ 128 - 1 ∧ wr.ownsRow w1.heap.size 3 1 u j ((topL a 128 j).map (Value.int .i64)) ∧ Below w1.heap.size w1 wr) (fun _ i _ => (intOf i + 1).toNat)
  case atStart => exact ⟨0, 128 - 1, by omega, rfl, (by simp : (128 - 1 : Int) = 128 - 1 - ((0 : Nat) : Int)), by omega, by omega, OW0, B2⟩
  case round =>
    clear OW0 B2
    obtain ⟨j, K, hj, rfl, hK, K0, K1, hown, hb⟩ := hrel
    have hs := hb.size
    have hK' := hK.out
    by_cases hlt : j < 128
    · have Kp : 0 ≤ K := by omega
      have BRr : BitRow wr g 128 a := ⟨by omega, fun i h => (hb.cell (p := ⟨g, i, none⟩) hgl).trans (BR.2 i h)⟩
      have cell : wr.cell? ⟨g, K.toNat, none⟩ = some (.int .i64 ((bitN a (128 - 1 - j) : Nat) : Int)) := by
        rw [BRr.2 K.toNat (by omega), show K.toNat = 128 - 1 - j by omega]
      obtain ⟨bb, hbb⟩ : ∃ bb : Int, bb = ((bitN a (128 - 1 - j) : Nat) : Int) := ⟨_, rfl⟩
      rw [← hbb] at cell
      have hbbH : Hid (bb = ((bitN a (128 - 1 - j) : Nat) : Int)) := hbb
      clear hbb hK'
      go_wp2_with (first | (at_builtin; refine wpList_append_own _ rfl _ _ 69 rfl w1.heap.size 3 i0 (.int .i64 0) 1 8 Tryz.underlying69 hi hz0 hz1 hz2 rfl (by decide) _ _ _ rfl (hown.alloc _) ⟨wr.heap.size, 0, none⟩ 1 1 [.int .i64 bb] rfl rfl (new_one _ _ _) (by intro u hu; simp at hu; subst hu; rfl) (by unfold maxLen; omega) (by omega) (by simp; omega) ?_))
      intro v' w4 hown4 hgrow _
      have hb5 := below_grown hb hs hown hgrow
      clear hown hgrow BRr
      go_wp2
      go_roundw
      case measure => simp [intOf]; omega
      case rel =>
        have hK' := hK.out
        refine ⟨j + 1, K - 1, by omega, rfl, by show _ = _; omega, by omega, by omega, ?_, hb5⟩
        rw [hbbH.out] at hown4
        simpa [topL] using hown4
    · obtain rfl : j = 128 := by omega
      have Kn : K = -1 := by omega
      have hB : Below w.heap.size w wr := B1.trans (hb.mono B1.size)
      obtain ⟨g', cap', rfl, hg', hcap', hm', hfr⟩ : ∃ g cap, u4 = .slice (some ⟨g, 0, none⟩) 128 cap ∧ w1.heap.size ≤ g ∧ 128 ≤ cap ∧ cap ≤ maxLen ∧ g < wr.heap.size := by
        rcases hown.2 with ⟨rfl, h0⟩ | ⟨g, cap, cur, rfl, h1, hh, hc, hmm, _⟩
        · omega
        · exact ⟨g, cap, rfl, h1, hc, by first | exact hmm | omega, (Array.getElem?_eq_some_iff.1 hh).1⟩
      have hRw : Rw wr g' 128 (fun i => bitN a (128 - 1 - i)) := ⟨hfr, fun i h => by
        rw [World.ownsRow.cellAt hown i (by omega), List.getElem?_map, topL_get a 128 128 i h]; rfl, fun i => World.ownsRow.frozenAt hown i⟩
      clear hown hb hs hK hK'
      subst Kn
      go_wp2
      go_ret
      exact ⟨g', cap', rfl, Nat.le_trans B1.size hg', hcap', hm', hRw, hB⟩

end Go.Proofs.YtipjmmhlfmahbaaGreatDoor

namespace Go.Proofs.YtipjmmhlfmahbaaGreatDoor
open Go.ChangeShapes Go.WideShapes Go.ChangeAt Go.RowKit
set_option linter.unusedVariables false
set_option linter.unusedSimpArgs false

set_option maxRecDepth 100000 in
set_option maxHeartbeats 1600000 in
theorem raddr_32 (v : Bool) {c : Nat} (hc : c < 2 ^ 32) (g cap : Nat) (hcap : 32 ≤ cap) (hm : cap ≤ maxLen) (w : World) (hr : Rw w g 32 (fun i => bitN c (32 - 1 - i))) :
    Calls Tryz.prog 50 #[.bool v, .slice (some ⟨g, 0, none⟩) 32 cap] w fun e w' => ∃ h l, e = .returned (av v h l) ∧ IsNum h l c ∧ Below w.heap.size w w' := by
  obtain ⟨i0, hi, hz0, hz1, hz2⟩ := info_parts infoInt
  have hgl := hr.1
  go_enter Tryz.func50, Tryz.ntmps50
  go_wp2_with fail
  obtain ⟨w1, hw1⟩ : ∃ w1, w1 = w.alloc (.cells #[.bool false, .int .u64 0, .int .u64 0] 26) := ⟨_, rfl⟩
  have K1 : Blk w1 w.heap.size #[.bool false, .int .u64 0, .int .u64 0] 26 := by rw [hw1]; exact Blk.new _ _ _
  have B1 : Below w.heap.size w w1 := by rw [hw1]; exact (Below.refl _ _).alloc (Nat.le_refl _) _
  have hr1 : Rw w1 g 32 (fun i => bitN c (32 - 1 - i)) := by rw [hw1]; exact hr.alloc _
  have OW0 : (w1.alloc (.cells #[] 3)).ownsRow w1.heap.size 3 1 (.slice (some ⟨w1.heap.size, 0, none⟩) 0 0) 0 [] := by
    have := World.ownsRow_made (base := w1.heap.size) (e := 3) (size := 1) w1 #[] 0 (Nat.le_refl _) (by unfold maxLen; omega) (by simp)
    simpa using this
  have B2 : Below w1.heap.size w1 (w1.alloc (.cells #[] 3)) := (Below.refl _ _).alloc (Nat.le_refl _) _
  rw [← hw1]
  have hgl1 := hr1.1
  have hs1 : Hid (w1.heap.size = w.heap.size + 1) := by show _ = _; rw [hw1]; simp
  clear hw1 hr
  go_loopw [5, 6] (fun u i wr => ∃ (j : Nat) (K : Int), j ≤ 32 ∧ i = .int .i64 K ∧ Hid (K = 32 - 1 - (j : Int)) ∧ -1 ≤ K ∧ K ≤ 32 - 1 ∧ wr.ownsRow w1.heap.size 3 1 u j ((bitsL c j).map (Value.int .i64)) ∧ Below w1.heap.size w1 wr) (fun _ i _ => (intOf i + 1).toNat)
  case atStart => exact ⟨0, 32 - 1, by omega, rfl, (by simp : (32 - 1 : Int) = 32 - 1 - ((0 : Nat) : Int)), by omega, by omega, by rw [← hs1.out]; exact OW0, B2⟩
  case round =>
    clear OW0 B2
    obtain ⟨j, K, hj, rfl, hK, K0, K1', hown, hb⟩ := hrel
    have hs := hb.size
    have hK' := hK.out
    by_cases hlt : j < 32
    · have Kp : 0 ≤ K := by omega
      have cell : wr.cell? ⟨g, K.toNat, none⟩ = some (.int .i64 ((bitN c j : Nat) : Int)) := by
        rw [(hb.cell (p := ⟨g, K.toNat, none⟩) hgl1), hr1.2.1 K.toNat (by omega)]; show some (Value.int .i64 ((bitN c (32 - 1 - K.toNat) : Nat) : Int)) = _; rw [show 32 - 1 - K.toNat = j by omega]
      obtain ⟨bb, hbb⟩ : ∃ bb : Int, bb = ((bitN c j : Nat) : Int) := ⟨_, rfl⟩
      rw [← hbb] at cell
      have hbbH : Hid (bb = ((bitN c j : Nat) : Int)) := hbb
      clear hbb hK'
      go_wp2_with (first | (at_builtin; refine wpList_append_own _ rfl _ _ 69 rfl w1.heap.size 3 i0 (.int .i64 0) 1 8 Tryz.underlying69 hi hz0 hz1 hz2 rfl (by decide) _ _ _ rfl (hown.alloc _) ⟨wr.heap.size, 0, none⟩ 1 1 [.int .i64 bb] rfl rfl (new_one _ _ _) (by intro u hu; simp at hu; subst hu; rfl) (by unfold maxLen; omega) (by omega) (by simp; omega) ?_))
      intro v' w4 hown4 hgrow _
      have hb5 := below_grown hb hs hown hgrow
      clear hown hgrow
      go_wp2
      go_roundw
      case measure => simp [intOf]; omega
      case rel =>
        have hK' := hK.out
        refine ⟨j + 1, K - 1, by omega, rfl, by show _ = _; omega, by omega, by omega, ?_, hb5⟩
        rw [hbbH.out] at hown4
        simpa [bitsL] using hown4
    · obtain rfl : j = 32 := by omega
      have Kn : K = -1 := by omega
      obtain ⟨g', cap', rfl, hg', hcap', hm', hRw⟩ := bitRow_of (by omega) hown
      have K2 : Blk wr w.heap.size #[.bool false, .int .u64 0, .int .u64 0] 26 := (hb.block w.heap.size (by have := hs1.out; omega)).trans K1
      have hB : Below w.heap.size w wr := B1.trans (hb.mono B1.size)
      have NW := num_w g' 32 cap' c (by omega) hc hcap' hm' wr hRw
      clear hown hb hs hK hK' hRw hr1 hg' hm' hcap'
      subst Kn
      go_wp2_with fail
      refine NW.mono ?_
      rintro e w5 ⟨h, l, rfl, hn, hb5⟩
      have hnH : Hid (IsNum h l c) := hn
      have hB5 := hB.trans (hb5.mono hB.size)
      obtain ⟨r0, r1, r2, r3, r4, r5, r6⟩ := (K2.below hb5).three
      clear hn hb5 NW hB K2
      go_wp2
      refine bodyPost_ret (v := av v h l) (by simp [results, Tryz.results50, go_sem, World.cell?_setCell_same', World.cell?_setCell_other, *]) rfl ⟨h, l, rfl, hnH.out, by repeat (first | with_reducible exact Below.refl _ _ | with_reducible refine Below.drew ?_ | with_reducible refine Below.alloc ?_ (by first | omega | (simp <;> omega)) _ | with_reducible refine Below.setCell ?_ (by first | omega | (simp <;> omega)) _ | with_reducible refine Below.trans ?_ (Below.mono hB5 (by first | omega | (simp <;> omega))))⟩

set_option maxRecDepth 100000 in
set_option maxHeartbeats 1600000 in
theorem raddr_128 (v : Bool) {c : Nat} (hc : c < 2 ^ 128) (g cap : Nat) (hcap : 128 ≤ cap) (hm : cap ≤ maxLen) (w : World) (hr : Rw w g 128 (fun i => bitN c (128 - 1 - i))) :
    Calls Tryz.prog 50 #[.bool v, .slice (some ⟨g, 0, none⟩) 128 cap] w fun e w' => ∃ h l, e = .returned (av v h l) ∧ IsNum h l c ∧ Below w.heap.size w w' := by
  obtain ⟨i0, hi, hz0, hz1, hz2⟩ := info_parts infoInt
  have hgl := hr.1
  go_enter Tryz.func50, Tryz.ntmps50
  go_wp2_with fail
  obtain ⟨w1, hw1⟩ : ∃ w1, w1 = w.alloc (.cells #[.bool false, .int .u64 0, .int .u64 0] 26) := ⟨_, rfl⟩
  have K1 : Blk w1 w.heap.size #[.bool false, .int .u64 0, .int .u64 0] 26 := by rw [hw1]; exact Blk.new _ _ _
  have B1 : Below w.heap.size w w1 := by rw [hw1]; exact (Below.refl _ _).alloc (Nat.le_refl _) _
  have hr1 : Rw w1 g 128 (fun i => bitN c (128 - 1 - i)) := by rw [hw1]; exact hr.alloc _
  have OW0 : (w1.alloc (.cells #[] 3)).ownsRow w1.heap.size 3 1 (.slice (some ⟨w1.heap.size, 0, none⟩) 0 0) 0 [] := by
    have := World.ownsRow_made (base := w1.heap.size) (e := 3) (size := 1) w1 #[] 0 (Nat.le_refl _) (by unfold maxLen; omega) (by simp)
    simpa using this
  have B2 : Below w1.heap.size w1 (w1.alloc (.cells #[] 3)) := (Below.refl _ _).alloc (Nat.le_refl _) _
  rw [← hw1]
  have hgl1 := hr1.1
  have hs1 : Hid (w1.heap.size = w.heap.size + 1) := by show _ = _; rw [hw1]; simp
  clear hw1 hr
  go_loopw [5, 6] (fun u i wr => ∃ (j : Nat) (K : Int), j ≤ 128 ∧ i = .int .i64 K ∧ Hid (K = 128 - 1 - (j : Int)) ∧ -1 ≤ K ∧ K ≤ 128 - 1 ∧ wr.ownsRow w1.heap.size 3 1 u j ((bitsL c j).map (Value.int .i64)) ∧ Below w1.heap.size w1 wr) (fun _ i _ => (intOf i + 1).toNat)
  case atStart => exact ⟨0, 128 - 1, by omega, rfl, (by simp : (128 - 1 : Int) = 128 - 1 - ((0 : Nat) : Int)), by omega, by omega, by rw [← hs1.out]; exact OW0, B2⟩
  case round =>
    clear OW0 B2
    obtain ⟨j, K, hj, rfl, hK, K0, K1', hown, hb⟩ := hrel
    have hs := hb.size
    have hK' := hK.out
    by_cases hlt : j < 128
    · have Kp : 0 ≤ K := by omega
      have cell : wr.cell? ⟨g, K.toNat, none⟩ = some (.int .i64 ((bitN c j : Nat) : Int)) := by
        rw [(hb.cell (p := ⟨g, K.toNat, none⟩) hgl1), hr1.2.1 K.toNat (by omega)]; show some (Value.int .i64 ((bitN c (128 - 1 - K.toNat) : Nat) : Int)) = _; rw [show 128 - 1 - K.toNat = j by omega]
      obtain ⟨bb, hbb⟩ : ∃ bb : Int, bb = ((bitN c j : Nat) : Int) := ⟨_, rfl⟩
      rw [← hbb] at cell
      have hbbH : Hid (bb = ((bitN c j : Nat) : Int)) := hbb
      clear hbb hK'
      go_wp2_with (first | (at_builtin; refine wpList_append_own _ rfl _ _ 69 rfl w1.heap.size 3 i0 (.int .i64 0) 1 8 Tryz.underlying69 hi hz0 hz1 hz2 rfl (by decide) _ _ _ rfl (hown.alloc _) ⟨wr.heap.size, 0, none⟩ 1 1 [.int .i64 bb] rfl rfl (new_one _ _ _) (by intro u hu; simp at hu; subst hu; rfl) (by unfold maxLen; omega) (by omega) (by simp; omega) ?_))
      intro v' w4 hown4 hgrow _
      have hb5 := below_grown hb hs hown hgrow
      clear hown hgrow
      go_wp2
      go_roundw
      case measure => simp [intOf]; omega
      case rel =>
        have hK' := hK.out
        refine ⟨j + 1, K - 1, by omega, rfl, by show _ = _; omega, by omega, by omega, ?_, hb5⟩
        rw [hbbH.out] at hown4
        simpa [bitsL] using hown4
    · obtain rfl : j = 128 := by omega
      have Kn : K = -1 := by omega
      obtain ⟨g', cap', rfl, hg', hcap', hm', hRw⟩ := bitRow_of (by omega) hown
      have K2 : Blk wr w.heap.size #[.bool false, .int .u64 0, .int .u64 0] 26 := (hb.block w.heap.size (by have := hs1.out; omega)).trans K1
      have hB : Below w.heap.size w wr := B1.trans (hb.mono B1.size)
      have NW := num_w g' 128 cap' c (by omega) hc hcap' hm' wr hRw
      clear hown hb hs hK hK' hRw hr1 hg' hm' hcap'
      subst Kn
      go_wp2_with fail
      refine NW.mono ?_
      rintro e w5 ⟨h, l, rfl, hn, hb5⟩
      have hnH : Hid (IsNum h l c) := hn
      have hB5 := hB.trans (hb5.mono hB.size)
      obtain ⟨r0, r1, r2, r3, r4, r5, r6⟩ := (K2.below hb5).three
      clear hn hb5 NW hB K2
      go_wp2
      refine bodyPost_ret (v := av v h l) (by simp [results, Tryz.results50, go_sem, World.cell?_setCell_same', World.cell?_setCell_other, *]) rfl ⟨h, l, rfl, hnH.out, by repeat (first | with_reducible exact Below.refl _ _ | with_reducible refine Below.drew ?_ | with_reducible refine Below.alloc ?_ (by first | omega | (simp <;> omega)) _ | with_reducible refine Below.setCell ?_ (by first | omega | (simp <;> omega)) _ | with_reducible refine Below.trans ?_ (Below.mono hB5 (by first | omega | (simp <;> omega))))⟩

end Go.Proofs.YtipjmmhlfmahbaaGreatDoor

namespace Go.Proofs.YtipjmmhlfmahbaaGreatDoor
open Go.ChangeShapes Go.WideShapes Go.ChangeAt Go.RowKit
set_option linter.unusedVariables false
set_option linter.unusedSimpArgs false

/-- All bits below the k-th alike. -/
def fillN (a k t : Nat) : Nat := a / 2 ^ k * 2 ^ k + t * (2 ^ k - 1)

theorem bitN_test (a j : Nat) : bitN a j = (a.testBit j).toNat := by
  unfold bitN
  rw [Nat.testBit, Nat.one_and_eq_mod_two, Nat.shiftRight_eq_div_pow]
  rcases Nat.mod_two_eq_zero_or_one (a / 2 ^ j) with h | h <;> simp [h]

theorem bitN_fill (a k t j : Nat) (ht : t ≤ 1) : bitN (fillN a k t) j = if j < k then t else bitN a j := by
  have hr : t * (2 ^ k - 1) < 2 ^ k := by
    have p := pow_pos2 k
    have : t = 0 ∨ t = 1 := by omega
    rcases this with rfl | rfl <;> omega
  unfold fillN
  rw [Nat.mul_comm (a / 2 ^ k), bitN_test, Nat.testBit_two_pow_mul_add _ hr]
  by_cases h : j < k
  · rw [if_pos h, if_pos h]
    have : t = 0 ∨ t = 1 := by omega
    rcases this with rfl | rfl
    · simp
    · rw [Nat.one_mul, Nat.testBit_two_pow_sub_one]; simp [h]
  · rw [if_neg h, if_neg h, Nat.testBit_div_two_pow, bitN_test]
    congr 2
    omega

theorem fillN_lt {a k t W : Nat} (ht : t ≤ 1) (hk : k ≤ W) (ha : a < 2 ^ W) : fillN a k t < 2 ^ W := by
  have p := pow_pos2 k
  have e : 2 ^ W = 2 ^ (W - k) * 2 ^ k := by rw [← Nat.pow_add]; congr 1; omega
  have l : a / 2 ^ k < 2 ^ (W - k) := by rw [Nat.div_lt_iff_lt_mul p, ← e]; exact ha
  have m : (a / 2 ^ k + 1) * 2 ^ k ≤ 2 ^ (W - k) * 2 ^ k := Nat.mul_le_mul_right _ l
  rw [Nat.add_mul, Nat.one_mul] at m
  unfold fillN
  rw [e]
  have : t = 0 ∨ t = 1 := by omega
  rcases this with rfl | rfl <;> omega

theorem Rw.congr {w : World} {g n : Nat} {f f' : Nat → Nat} (x : Rw w g n f) (h : ∀ i, i < n → f i = f' i) : Rw w g n f' :=
  ⟨x.1, fun i hi => by rw [x.2.1 i hi, h i hi], x.2.2⟩

theorem Rw.put {w : World} {g n m t : Nat} {f : Nat → Nat} (x : Rw w g n f) (hm : m < n) : Rw (w.setCell ⟨g, m, none⟩ (.int .i64 ((t : Nat) : Int))) g n (fun i => if i = m then t else f i) := by
  have c := x.2.1 m hm
  refine ⟨by simpa using x.1, fun i hi => ?_, fun i => ?_⟩
  · by_cases e : i = m
    · subst e
      rw [World.cell?_setCell_same' _ _ _ (by rw [c]; rfl)]
      simp
    · rw [World.cell?_setCell_other _ _ _ _ (by simp <;> omega), x.2.1 i hi]
      simp [e]
  · have := x.2.2 i
    simpa using this

/-- What Filled keeps. -/
def FK (w : World) (v : Bool) (h l : Int) (wr : World) : Prop :=
  Blk wr w.heap.size #[.bool v, .int .u64 h, .int .u64 l] 26 ∧ Blk wr (w.heap.size + 1) #[.bool false, .int .u64 0, .int .u64 0] 26 ∧ Below w.heap.size w wr

theorem FK.below {w W w1 : World} {v : Bool} {h l : Int} (s : FK w v h l W) (hb : Below W.heap.size W w1) : FK w v h l w1 := ⟨s.1.below hb, s.2.1.below hb, s.2.2.trans (hb.mono s.2.2.size)⟩

theorem FK.put {w W : World} {v : Bool} {h l : Int} (s : FK w v h l W) {g i : Nat} (hg : w.heap.size + 2 ≤ g) (u : Value) : FK w v h l (W.setCell ⟨g, i, none⟩ u) := ⟨s.1.far (by omega) _ _, s.2.1.far (by omega) _ _, s.2.2.setCell (by show _ ≤ g; omega) _⟩

set_option maxRecDepth 100000 in
set_option maxHeartbeats 1600000 in
theorem filled_32 {h l f bb : Int} {a F t : Nat} (ha : IsNum h l a) (haW : a < 2 ^ 32) (hF : F ≤ 32) (hf : f = (F : Nat)) (hbb : bb = (t : Nat)) (ht : t ≤ 1) (w : World) :
    Calls Tryz.prog 25 #[av false h l, .int .i64 f, .int .i64 bb] w fun e w' => ∃ h' l', e = .returned (av false h' l') ∧ IsNum h' l' (fillN a (32 - F) t) ∧ Below w.heap.size w w' := by
  have hfH : Hid (f = (F : Nat)) := hf
  have hbH : Hid (bb = (t : Nat)) := hbb
  have f0 : 0 ≤ f := by omega
  have f1 : f ≤ 32 := by omega
  have R0 : FK w false h l ((w.alloc (.cells #[.bool false, .int .u64 h, .int .u64 l] 26)).alloc (.cells #[.bool false, .int .u64 0, .int .u64 0] 26)) :=
    ⟨(Blk.new _ _ _).alloc _, by simpa using Blk.new (w.alloc (.cells #[.bool false, .int .u64 h, .int .u64 l] 26)) #[.bool false, .int .u64 0, .int .u64 0] 26, by repeat (first | with_reducible exact Below.refl _ _ | with_reducible refine Below.drew ?_ | with_reducible refine Below.alloc ?_ (by first | omega | (simp <;> omega)) _ | with_reducible refine Below.setCell ?_ (by first | omega | (simp <;> omega)) _)⟩
  have RW := row_32 ha ((w.alloc (.cells #[.bool false, .int .u64 h, .int .u64 l] 26)).alloc (.cells #[.bool false, .int .u64 0, .int .u64 0] 26))
  clear hf hbb ha
  go_enter Tryz.func25, Tryz.ntmps25
  go_wp2_with fail
  refine RW.mono ?_
  rintro e w1 ⟨g, cap, rfl, hg, hcap, hm, hrw, hb1⟩
  have R1 := R0.below hb1
  have hg2 : w.heap.size + 2 ≤ g := by simpa using hg
  clear R0 hb1 hg RW
  go_wp2_with fail
  go_loopw [8] (fun i wr => ∃ (m : Nat) (M : Int), F ≤ m ∧ m ≤ 32 ∧ i = .int .i64 M ∧ Hid (M = (m : Nat)) ∧ 0 ≤ M ∧ M ≤ 32 ∧ Rw wr g 32 (fun i => if F ≤ i ∧ i < m then t else bitN a (32 - 1 - i)) ∧ FK w false h l wr) (fun i _ => 32 - (intOf i).toNat)
  case atStart => exact ⟨F, f, by omega, hF, rfl, hfH, f0, f1, hrw.congr (fun i _ => by rw [if_neg (by omega)]), R1⟩
  case round =>
    clear R1 hrw
    obtain ⟨m, M, hFm, hmW, rfl, hM, M0, M1, hr, R⟩ := hrel
    have hM' := hM.out
    by_cases hlt : m < 32
    · have Ml : M < 32 := by omega
      have MN : M.toNat = m := by omega
      have cell := hr.2.1 M.toNat (by omega)
      have fro := hr.2.2 M.toNat
      have hgl := hr.1
      have nx : Rw (wr.setCell ⟨g, M.toNat, none⟩ (.int .i64 bb)) g 32 (fun i => if F ≤ i ∧ i < m + 1 then t else bitN a (32 - 1 - i)) := by
        rw [hbH.out, MN]
        refine (hr.put (t := t) hlt).congr (fun i hi => ?_)
        by_cases e : i = m
        · subst e; rw [if_pos rfl, if_pos (by omega)]
        · rw [if_neg e]
          by_cases e2 : F ≤ i ∧ i < m
          · rw [if_pos e2, if_pos (by omega)]
          · rw [if_neg e2, if_neg (by omega)]
      have nxH : Hid _ := nx
      have R' : Hid (FK w false h l (wr.setCell ⟨g, M.toNat, none⟩ (.int .i64 bb))) := R.put hg2 _
      clear nx hM' MN hr R
      go_wp2
      go_roundw
      case measure => simp [intOf]; omega
      case rel => exact ⟨m + 1, M + 1, by omega, by omega, rfl, by show _ = _; have := hM.out; omega, by omega, by omega, nxH.out, R'.out⟩
    · obtain rfl : m = 32 := by omega
      obtain rfl : M = 32 := by omega
      have hr2 : Rw wr g 32 (fun i => bitN (fillN a (32 - F) t) (32 - 1 - i)) := hr.congr (fun i hi => by
        rw [bitN_fill _ _ _ _ ht]
        by_cases e : F ≤ i
        · rw [if_pos ⟨e, hi⟩, if_pos (by omega)]
        · rw [if_neg (fun h => e h.1), if_neg (by omega)])
      have AD := raddr_32 false (fillN_lt ht (show 32 - F ≤ 32 by omega) haW) g cap hcap hm wr hr2
      obtain ⟨r0, r1, r2, r3, r4, r5, r6⟩ := R.1.three
      clear hr hr2 hM hM'
      go_wp2_with fail
      refine AD.mono ?_
      rintro e w5 ⟨h', l', rfl, hn, hb5⟩
      have hnH : Hid (IsNum h' l' (fillN a (32 - F) t)) := hn
      have R5 := R.below hb5
      obtain ⟨q0, q1, q2, q3, q4, q5, q6⟩ := R5.2.1.three
      have B5 := R5.2.2
      clear hn AD hb5 R r0 r1 r2 r3 r4 r5 r6
      go_wp2
      refine bodyPost_ret (v := av false h' l') (by simp [results, Tryz.results25, go_sem, World.cell?_setCell_same', World.cell?_setCell_other, *]) rfl ⟨h', l', rfl, hnH.out, by repeat (first | with_reducible exact Below.refl _ _ | with_reducible refine Below.drew ?_ | with_reducible refine Below.alloc ?_ (by first | omega | (simp <;> omega)) _ | with_reducible refine Below.setCell ?_ (by first | omega | (simp <;> omega)) _ | with_reducible refine Below.trans ?_ (Below.mono B5 (by first | omega | (simp <;> omega))))⟩

set_option maxRecDepth 100000 in
set_option maxHeartbeats 1600000 in
theorem filled_128 {h l f bb : Int} {a F t : Nat} (ha : IsNum h l a) (haW : a < 2 ^ 128) (hF : F ≤ 128) (hf : f = (F : Nat)) (hbb : bb = (t : Nat)) (ht : t ≤ 1) (w : World) :
    Calls Tryz.prog 25 #[av true h l, .int .i64 f, .int .i64 bb] w fun e w' => ∃ h' l', e = .returned (av true h' l') ∧ IsNum h' l' (fillN a (128 - F) t) ∧ Below w.heap.size w w' := by
  have hfH : Hid (f = (F : Nat)) := hf
  have hbH : Hid (bb = (t : Nat)) := hbb
  have f0 : 0 ≤ f := by omega
  have f1 : f ≤ 128 := by omega
  have R0 : FK w true h l ((w.alloc (.cells #[.bool true, .int .u64 h, .int .u64 l] 26)).alloc (.cells #[.bool false, .int .u64 0, .int .u64 0] 26)) :=
    ⟨(Blk.new _ _ _).alloc _, by simpa using Blk.new (w.alloc (.cells #[.bool true, .int .u64 h, .int .u64 l] 26)) #[.bool false, .int .u64 0, .int .u64 0] 26, by repeat (first | with_reducible exact Below.refl _ _ | with_reducible refine Below.drew ?_ | with_reducible refine Below.alloc ?_ (by first | omega | (simp <;> omega)) _ | with_reducible refine Below.setCell ?_ (by first | omega | (simp <;> omega)) _)⟩
  have RW := row_128 ha ((w.alloc (.cells #[.bool true, .int .u64 h, .int .u64 l] 26)).alloc (.cells #[.bool false, .int .u64 0, .int .u64 0] 26))
  clear hf hbb ha
  go_enter Tryz.func25, Tryz.ntmps25
  go_wp2_with fail
  refine RW.mono ?_
  rintro e w1 ⟨g, cap, rfl, hg, hcap, hm, hrw, hb1⟩
  have R1 := R0.below hb1
  have hg2 : w.heap.size + 2 ≤ g := by simpa using hg
  clear R0 hb1 hg RW
  go_wp2_with fail
  go_loopw [8] (fun i wr => ∃ (m : Nat) (M : Int), F ≤ m ∧ m ≤ 128 ∧ i = .int .i64 M ∧ Hid (M = (m : Nat)) ∧ 0 ≤ M ∧ M ≤ 128 ∧ Rw wr g 128 (fun i => if F ≤ i ∧ i < m then t else bitN a (128 - 1 - i)) ∧ FK w true h l wr) (fun i _ => 128 - (intOf i).toNat)
  case atStart => exact ⟨F, f, by omega, hF, rfl, hfH, f0, f1, hrw.congr (fun i _ => by rw [if_neg (by omega)]), R1⟩
  case round =>
    clear R1 hrw
    obtain ⟨m, M, hFm, hmW, rfl, hM, M0, M1, hr, R⟩ := hrel
    have hM' := hM.out
    by_cases hlt : m < 128
    · have Ml : M < 128 := by omega
      have MN : M.toNat = m := by omega
      have cell := hr.2.1 M.toNat (by omega)
      have fro := hr.2.2 M.toNat
      have hgl := hr.1
      have nx : Rw (wr.setCell ⟨g, M.toNat, none⟩ (.int .i64 bb)) g 128 (fun i => if F ≤ i ∧ i < m + 1 then t else bitN a (128 - 1 - i)) := by
        rw [hbH.out, MN]
        refine (hr.put (t := t) hlt).congr (fun i hi => ?_)
        by_cases e : i = m
        · subst e; rw [if_pos rfl, if_pos (by omega)]
        · rw [if_neg e]
          by_cases e2 : F ≤ i ∧ i < m
          · rw [if_pos e2, if_pos (by omega)]
          · rw [if_neg e2, if_neg (by omega)]
      have nxH : Hid _ := nx
      have R' : Hid (FK w true h l (wr.setCell ⟨g, M.toNat, none⟩ (.int .i64 bb))) := R.put hg2 _
      clear nx hM' MN hr R
      go_wp2
      go_roundw
      case measure => simp [intOf]; omega
      case rel => exact ⟨m + 1, M + 1, by omega, by omega, rfl, by show _ = _; have := hM.out; omega, by omega, by omega, nxH.out, R'.out⟩
    · obtain rfl : m = 128 := by omega
      obtain rfl : M = 128 := by omega
      have hr2 : Rw wr g 128 (fun i => bitN (fillN a (128 - F) t) (128 - 1 - i)) := hr.congr (fun i hi => by
        rw [bitN_fill _ _ _ _ ht]
        by_cases e : F ≤ i
        · rw [if_pos ⟨e, hi⟩, if_pos (by omega)]
        · rw [if_neg (fun h => e h.1), if_neg (by omega)])
      have AD := raddr_128 true (fillN_lt ht (show 128 - F ≤ 128 by omega) haW) g cap hcap hm wr hr2
      obtain ⟨r0, r1, r2, r3, r4, r5, r6⟩ := R.1.three
      clear hr hr2 hM hM'
      go_wp2_with fail
      refine AD.mono ?_
      rintro e w5 ⟨h', l', rfl, hn, hb5⟩
      have hnH : Hid (IsNum h' l' (fillN a (128 - F) t)) := hn
      have R5 := R.below hb5
      obtain ⟨q0, q1, q2, q3, q4, q5, q6⟩ := R5.2.1.three
      have B5 := R5.2.2
      clear hn AD hb5 R r0 r1 r2 r3 r4 r5 r6
      go_wp2
      refine bodyPost_ret (v := av true h' l') (by simp [results, Tryz.results25, go_sem, World.cell?_setCell_same', World.cell?_setCell_other, *]) rfl ⟨h', l', rfl, hnH.out, by repeat (first | with_reducible exact Below.refl _ _ | with_reducible refine Below.drew ?_ | with_reducible refine Below.alloc ?_ (by first | omega | (simp <;> omega)) _ | with_reducible refine Below.setCell ?_ (by first | omega | (simp <;> omega)) _ | with_reducible refine Below.trans ?_ (Below.mono B5 (by first | omega | (simp <;> omega))))⟩

end Go.Proofs.YtipjmmhlfmahbaaGreatDoor
