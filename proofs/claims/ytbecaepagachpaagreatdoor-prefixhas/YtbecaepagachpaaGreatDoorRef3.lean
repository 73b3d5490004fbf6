/-
  The reference's Row and Addr: an address's bits, the highest first, and back.
-/
import Derived.Test.YtbecaepagachpaaGreatDoorRef2
import Derived.Test.YtbecaepagachpaaGreatDoorBlk
namespace Go.Proofs.YtbecaepagachpaaGreatDoor
open Go.ChangeShapes Go.WideShapes Go.ChangeAt Go.RowKit
set_option linter.unusedVariables false
set_option linter.unusedSimpArgs false

/-- The bits, the highest first: k of them, of W. -/
def topL (a W : Nat) : Nat → List Int
  | 0 => []
  | k + 1 => topL a W k ++ [((bitN a (W - 1 - k) : Nat) : Int)]

theorem topL_length (a W : Nat) : ∀ k, (topL a W k).length = k
  | 0 => rfl
  | k + 1 => by simp [topL, topL_length a W k]

theorem topL_get (a W : Nat) : ∀ (k i : Nat), i < k → (topL a W k)[i]? = some ((bitN a (W - 1 - i) : Nat) : Int)
  | 0, _, h => by omega
  | k + 1, i, h => by
    have l := topL_length a W k
    by_cases e : i = k
    · subst e
      rw [topL, List.getElem?_append_right (by omega), l, Nat.sub_self]; rfl
    · rw [topL, List.getElem?_append_left (by omega), topL_get a W k i (by omega)]

/-- A row of noughts and ones that may be written to. -/
def Rw (w : World) (g W : Nat) (f : Nat → Nat) : Prop := g < w.heap.size ∧ (∀ i, i < W → w.cell? ⟨g, i, none⟩ = some (.int .i64 ((f i : Nat) : Int))) ∧ ∀ i, w.frozen? ⟨g, i, none⟩ = false

theorem Rw.below {W w1 : World} {g n : Nat} {f : Nat → Nat} (x : Rw W g n f) (hb : Below W.heap.size W w1) : Rw w1 g n f :=
  ⟨Nat.lt_of_lt_of_le x.1 hb.size, fun i h => ((bcell hb).1 g i x.1).trans (x.2.1 i h), fun i => ((bcell hb).2 g i x.1).trans (x.2.2 i)⟩

theorem Rw.alloc {W : World} {g n : Nat} {f : Nat → Nat} (x : Rw W g n f) (o : Obj) : Rw (W.alloc o) g n f := x.below ((Below.refl _ _).alloc (Nat.le_refl _) _)

theorem Rw.drew {W : World} {g n : Nat} {f : Nat → Nat} (x : Rw W g n f) : Rw W.drew g n f := x

set_option maxRecDepth 100000 in
set_option maxHeartbeats 1600000 in
theorem row_32 {h l : Int} {a : Nat} (ha : IsNum h l a) (w : World) :
    Calls Tryz.prog 41 #[av false h l] w fun e w' => ∃ g cap, e = .returned (.slice (some ⟨g, 0, none⟩) 32 cap) ∧ w.heap.size ≤ g ∧ 32 ≤ cap ∧ cap ≤ maxLen ∧ Rw w' g 32 (fun i => bitN a (32 - 1 - i)) ∧ Below w.heap.size w w' := by
  obtain ⟨i0, hi, hz0, hz1, hz2⟩ := info_parts infoInt
  go_enter Tryz.func41, Tryz.ntmps41
  go_wp2_with fail
  refine (bits_c ha _).mono ?_
  rintro e w1 ⟨g, cap, rfl, hg, BR, hb1⟩
  obtain ⟨hc1, hf1⟩ := bcell hb1
  have hz_w1_0 : w.heap.size < w1.heap.size   := (by have := hb1.size; first | omega | (simp at this; omega))
  have B1 : Below w.heap.size w w1 := by repeat (first | with_reducible exact Below.refl _ _ | with_reducible refine Below.drew ?_ | with_reducible refine Below.alloc ?_ (by first | omega | (simp <;> omega)) _ | with_reducible refine Below.setCell ?_ (by first | omega | (simp <;> omega)) _ | with_reducible refine Below.trans ?_ (Below.mono hb1 (by first | omega | (simp <;> omega))))
  have bx : w1.cell? ⟨w.heap.size, 0, none⟩ = some (.bool false) ∧ w1.cell? ⟨w.heap.size, 1, none⟩ = some (.int .u64 h) ∧ w1.cell? ⟨w.heap.size, 2, none⟩ = some (.int .u64 l) := by simp [*]
  obtain ⟨bx0, bx1, bx2⟩ := bx
  clear hc1 hf1 hb1 ha
  go_wp2_with fail
  refine (rwidth_c false 32 rfl h l _).mono ?_
  rintro e w2 ⟨rfl, hb2⟩
  have OW0 : w2.ownsRow w1.heap.size 3 1 (.slice (some ⟨w1.heap.size, 0, none⟩) 0 0) 0 [] := by
    have := World.ownsRow_made (base := w1.heap.size) (e := 3) (size := 1) w1 #[] 0 (Nat.le_refl _) (by unfold maxLen; omega) (by simp)
    exact own_below (by simpa using this) hb2
  have B2 : Below w1.heap.size w1 w2 := ((Below.refl _ _).alloc (Nat.le_refl _) _).trans (hb2.mono (by simp))
  have hgl := BR.1
  clear hb2
  go_wp2_with fail
  go_loopw [4, 5] (fun u i wr => ∃ (j : Nat) (K : Int), j ≤ 32 ∧ i = .int .i64 K ∧ Hid (K = 32 - 1 - (j : Int)) ∧ -1 ≤ K ∧ K ≤ 32 - 1 ∧ wr.ownsRow w1.heap.size 3 1 u j ((topL a 32 j).map (Value.int .i64)) ∧ Below w1.heap.size w1 wr) (fun _ i _ => (intOf i + 1).toNat)
  case atStart => exact ⟨0, 32 - 1, by omega, rfl, (by simp : (32 - 1 : Int) = 32 - 1 - ((0 : Nat) : Int)), by omega, by omega, OW0, B2⟩
  case round =>
    clear OW0 B2
    obtain ⟨j, K, hj, rfl, hK, K0, K1, hown, hb⟩ := hrel
    have hs := hb.size
    have hK' := hK.out
    by_cases hlt : j < 32
    · have Kp : 0 ≤ K := by omega
      have BRr : BitRow wr g 128 a := ⟨by omega, fun i h => (hb.cell (p := ⟨g, i, none⟩) hgl).trans (BR.2 i h)⟩
      have cell : wr.cell? ⟨g, K.toNat, none⟩ = some (.int .i64 ((bitN a (32 - 1 - j) : Nat) : Int)) := by
        rw [BRr.2 K.toNat (by omega), show K.toNat = 32 - 1 - j by omega]
      obtain ⟨bb, hbb⟩ : ∃ bb : Int, bb = ((bitN a (32 - 1 - j) : Nat) : Int) := ⟨_, rfl⟩
      rw [← hbb] at cell
      have hbbH : Hid (bb = ((bitN a (32 - 1 - j) : Nat) : Int)) := hbb
      clear hbb hK'
      go_wp2_with (first | (at_builtin; refine wpList_append_own _ rfl _ _ 54 rfl w1.heap.size 3 i0 (.int .i64 0) 1 8 Tryz.underlying54 hi hz0 hz1 hz2 rfl (by decide) _ _ _ rfl (hown.alloc _) ⟨wr.heap.size, 0, none⟩ 1 1 [.int .i64 bb] rfl rfl (new_one _ _ _) (by intro u hu; simp at hu; subst hu; rfl) (by unfold maxLen; omega) (by omega) (by simp; omega) ?_))
      intro v' w4 hown4 hgrow _
      have hb5 := below_grown hb hs hown hgrow
      clear hown hgrow BRr
      go_wp2
      go_roundw
      case measure => simp [intOf]; omega
      case rel =>
        have hK' := hK.out
        refine ⟨j + 1, K - 1, by omega, rfl, by show _ = _; omega, by omega, by omega, ?_, hb5⟩
        rw [hbbH.out] at hown4
        simpa [topL] using hown4
    · obtain rfl : j = 32 := by omega
      have Kn : K = -1 := by omega
      have hB : Below w.heap.size w wr := B1.trans (hb.mono B1.size)
      obtain ⟨g', cap', rfl, hg', hcap', hm', hfr⟩ : ∃ g cap, u4 = .slice (some ⟨g, 0, none⟩) 32 cap ∧ w1.heap.size ≤ g ∧ 32 ≤ cap ∧ cap ≤ maxLen ∧ g < wr.heap.size := by
        rcases hown.2 with ⟨rfl, h0⟩ | ⟨g, cap, cur, rfl, h1, hh, hc, hmm, _⟩
        · omega
        · exact ⟨g, cap, rfl, h1, hc, by first | exact hmm | omega, (Array.getElem?_eq_some_iff.1 hh).1⟩
      have hRw : Rw wr g' 32 (fun i => bitN a (32 - 1 - i)) := ⟨hfr, fun i h => by
        rw [World.ownsRow.cellAt hown i (by omega), List.getElem?_map, topL_get a 32 32 i h]; rfl, fun i => World.ownsRow.frozenAt hown i⟩
      clear hown hb hs hK hK'
      subst Kn
      go_wp2
      go_ret
      exact ⟨g', cap', rfl, Nat.le_trans B1.size hg', hcap', hm', hRw, hB⟩

set_option maxRecDepth 100000 in
set_option maxHeartbeats 1600000 in
theorem row_128 {h l : Int} {a : Nat} (ha : IsNum h l a) (w : World) :
    Calls Tryz.prog 41 #[av true h l] w fun e w' => ∃ g cap, e = .returned (.slice (some ⟨g, 0, none⟩) 128 cap) ∧ w.heap.size ≤ g ∧ 128 ≤ cap ∧ cap ≤ maxLen ∧ Rw w' g 128 (fun i => bitN a (128 - 1 - i)) ∧ Below w.heap.size w w' := by
  obtain ⟨i0, hi, hz0, hz1, hz2⟩ := info_parts infoInt
  go_enter Tryz.func41, Tryz.ntmps41
  go_wp2_with fail
  refine (bits_c ha _).mono ?_
  rintro e w1 ⟨g, cap, rfl, hg, BR, hb1⟩
  obtain ⟨hc1, hf1⟩ := bcell hb1
  have hz_w1_0 : w.heap.size < w1.heap.size   := (by have := hb1.size; first | omega | (simp at this; omega))
  have B1 : Below w.heap.size w w1 := by repeat (first | with_reducible exact Below.refl _ _ | with_reducible refine Below.drew ?_ | with_reducible refine Below.alloc ?_ (by first | omega | (simp <;> omega)) _ | with_reducible refine Below.setCell ?_ (by first | omega | (simp <;> omega)) _ | with_reducible refine Below.trans ?_ (Below.mono hb1 (by first | omega | (simp <;> omega))))
  have bx : w1.cell? ⟨w.heap.size, 0, none⟩ = some (.bool true) ∧ w1.cell? ⟨w.heap.size, 1, none⟩ = some (.int .u64 h) ∧ w1.cell? ⟨w.heap.size, 2, none⟩ = some (.int .u64 l) := by simp [*]
  obtain ⟨bx0, bx1, bx2⟩ := bx
  clear hc1 hf1 hb1 ha
  go_wp2_with fail
  refine (rwidth_c true 128 rfl h l _).mono ?_
  rintro e w2 ⟨rfl, hb2⟩
  have OW0 : w2.ownsRow w1.heap.size 3 1 (.slice (some ⟨w1.heap.size, 0, none⟩) 0 0) 0 [] := by
    have := World.ownsRow_made (base := w1.heap.size) (e := 3) (size := 1) w1 #[] 0 (Nat.le_refl _) (by unfold maxLen; omega) (by simp)
    exact own_below (by simpa using this) hb2
  have B2 : Below w1.heap.size w1 w2 := ((Below.refl _ _).alloc (Nat.le_refl _) _).trans (hb2.mono (by simp))
  have hgl := BR.1
  clear hb2
  go_wp2_with fail
  go_loopw [4, 5] (fun u i wr => ∃ (j : Nat) (K : Int), j ≤ 128 ∧ i = .int .i64 K ∧ Hid (K = 128 - 1 - (j : Int)) ∧ -1 ≤ K ∧ K ≤ 128 - 1 ∧ wr.ownsRow w1.heap.size 3 1 u j ((topL a 128 j).map (Value.int .i64)) ∧ Below w1.heap.size w1 wr) (fun _ i _ => (intOf i + 1).toNat)
  case atStart => exact ⟨0, 128 - 1, by omega, rfl, (by simp : (128 - 1 : Int) = 128 - 1 - ((0 : Nat) : Int)), by omega, by omega, OW0, B2⟩
  case round =>
    clear OW0 B2
    obtain ⟨j, K, hj, rfl, hK, K0, K1, hown, hb⟩ := hrel
    have hs := hb.size
    have hK' := hK.out
    by_cases hlt : j < 128
    · have Kp : 0 ≤ K := by omega
      have BRr : BitRow wr g 128 a := ⟨by omega, fun i h => (hb.cell (p := ⟨g, i, none⟩) hgl).trans (BR.2 i h)⟩
      have cell : wr.cell? ⟨g, K.toNat, none⟩ = some (.int .i64 ((bitN a (128 - 1 - j) : Nat) : Int)) := by
        rw [BRr.2 K.toNat (by omega), show K.toNat = 128 - 1 - j by omega]
      obtain ⟨bb, hbb⟩ : ∃ bb : Int, bb = ((bitN a (128 - 1 - j) : Nat) : Int) := ⟨_, rfl⟩
      rw [← hbb] at cell
      have hbbH : Hid (bb = ((bitN a (128 - 1 - j) : Nat) : Int)) := hbb
      clear hbb hK'
      go_wp2_with (first | (at_builtin; refine wpList_append_own _ rfl _ _ 54 rfl w1.heap.size 3 i0 (.int .i64 0) 1 8 Tryz.underlying54 hi hz0 hz1 hz2 rfl (by decide) _ _ _ rfl (hown.alloc _) ⟨wr.heap.size, 0, none⟩ 1 1 [.int .i64 bb] rfl rfl (new_one _ _ _) (by intro u hu; simp at hu; subst hu; rfl) (by unfold maxLen; omega) (by omega) (by simp; omega) ?_))
      intro v' w4 hown4 hgrow _
      have hb5 := below_grown hb hs hown hgrow
      clear hown hgrow BRr
      go_wp2
      go_roundw
      case measure => simp [intOf]; omega
      case rel =>
        have hK' := hK.out
        refine ⟨j + 1, K - 1, by omega, rfl, by show _ = _; omega, by omega, by omega, ?_, hb5⟩
        rw [hbbH.out] at hown4
        simpa [topL] using hown4
    · obtain rfl : j = 128 := by omega
      have Kn : K = -1 := by omega
      have hB : Below w.heap.size w wr := B1.trans (hb.mono B1.size)
      obtain ⟨g', cap', rfl, hg', hcap', hm', hfr⟩ : ∃ g cap, u4 = .slice (some ⟨g, 0, none⟩) 128 cap ∧ w1.heap.size ≤ g ∧ 128 ≤ cap ∧ cap ≤ maxLen ∧ g < wr.heap.size := by
        rcases hown.2 with ⟨rfl, h0⟩ | ⟨g, cap, cur, rfl, h1, hh, hc, hmm, _⟩
        · omega
        · exact ⟨g, cap, rfl, h1, hc, by first | exact hmm | omega, (Array.getElem?_eq_some_iff.1 hh).1⟩
      have hRw : Rw wr g' 128 (fun i => bitN a (128 - 1 - i)) := ⟨hfr, fun i h => by
        rw [World.ownsRow.cellAt hown i (by omega), List.getElem?_map, topL_get a 128 128 i h]; rfl, fun i => World.ownsRow.frozenAt hown i⟩
      clear hown hb hs hK hK'
      subst Kn
      go_wp2
      go_ret
      exact ⟨g', cap', rfl, Nat.le_trans B1.size hg', hcap', hm', hRw, hB⟩

end Go.Proofs.YtbecaepagachpaaGreatDoor
