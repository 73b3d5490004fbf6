/-
  The reference's numbers of rows of bits (a piece of an address's row), for every piece.
-/
import Derived.Test.YtmhnfgfdggjdhaaGreatDoorCParts
import Derived.Test.YtmhnfgfdggjdhaaGreatDoorRef3f
namespace Go.Proofs.YtmhnfgfdggjdhaaGreatDoor
open Go.ChangeShapes Go.WideShapes Go.ChangeAt Go.RowKit
set_option linter.unusedVariables false
set_option linter.unusedSimpArgs false

theorem bitRow_any {w : World} {base n a : Nat} {v : Value} (hn : v ≠ .slice none 0 0) (h : w.ownsRow base 3 1 v n ((bitsL a n).map (Value.int .i64))) :
    ∃ g cap, v = .slice (some ⟨g, 0, none⟩) n cap ∧ n ≤ cap ∧ cap ≤ maxLen ∧ BitRow w g n a := by
  by_cases c : 0 < n
  · obtain ⟨g, cap, e, _, h1, h2, h3⟩ := bitRow_of c h
    exact ⟨g, cap, e, h1, h2, h3⟩
  · obtain rfl : n = 0 := by omega
    have h' := h
    obtain ⟨hl, ⟨rfl, h0⟩ | ⟨g, cap, cur, rfl, hg, hh, hc, hm, hs, ht⟩⟩ := h'
    · exact absurd rfl hn
    · exact ⟨g, cap, rfl, hc, hm, (h.lt g rfl).2, fun i hi => by omega⟩

set_option maxRecDepth 100000 in
set_option maxHeartbeats 1600000 in
theorem raddr_any (v : Bool) {c N : Nat} (hN : N ≤ 128) (hc : c < 2 ^ N) (g o cap : Nat) (w : World) (hgl : g < w.heap.size) (hr : ∀ i, i < N → w.cell? ⟨g, o + i, none⟩ = some (.int .i64 ((bitN c (N - 1 - i) : Nat) : Int))) :
    Calls Tryz.prog 75 #[.bool v, .slice (some ⟨g, o, none⟩) N cap] w fun e w' => ∃ h l, e = .returned (av v h l) ∧ IsNum h l c ∧ Below w.heap.size w w' := by
  obtain ⟨i0, hi, hz0, hz1, hz2⟩ := info_parts infoInt
  have hw0 : IntKind.i64.wrap ((N : Int) - 1) = (N : Int) - 1 := by simp [IntKind.wrap, IntKind.bits, IntKind.signed]; omega
  go_enter Tryz.func75, Tryz.ntmps75
  go_wp2_with fail
  obtain ⟨w1, hw1⟩ : ∃ w1, w1 = w.alloc (.cells #[.bool false, .int .u64 0, .int .u64 0] 26) := ⟨_, rfl⟩
  have K1 : Blk w1 w.heap.size #[.bool false, .int .u64 0, .int .u64 0] 26 := by rw [hw1]; exact Blk.new _ _ _
  have B1 : Below w.heap.size w w1 := by rw [hw1]; exact (Below.refl _ _).alloc (Nat.le_refl _) _
  have hr1 : ∀ i, i < N → w1.cell? ⟨g, o + i, none⟩ = some (.int .i64 ((bitN c (N - 1 - i) : Nat) : Int)) := by
    intro i hi
    rw [hw1, World.cell?_alloc_lt _ _ _ hgl]
    exact hr i hi
  have hgl1 : g < w1.heap.size := by rw [hw1]; simp; omega
  have OW0 : (w1.alloc (.cells #[] 3)).ownsRow w1.heap.size 3 1 (.slice (some ⟨w1.heap.size, 0, none⟩) 0 0) 0 [] := by
    have := World.ownsRow_made (base := w1.heap.size) (e := 3) (size := 1) w1 #[] 0 (Nat.le_refl _) (by unfold maxLen; omega) (by simp)
    simpa using this
  have B2 : Below w1.heap.size w1 (w1.alloc (.cells #[] 3)) := (Below.refl _ _).alloc (Nat.le_refl _) _
  rw [← hw1]
  have hs1 : Hid (w1.heap.size = w.heap.size + 1) := by show _ = _; rw [hw1]; simp
  have HN : Hid (N ≤ 128) := hN
  have HR : Hid (∀ i, i < N → w1.cell? ⟨g, o + i, none⟩ = some (.int .i64 ((bitN c (N - 1 - i) : Nat) : Int))) := hr1
  clear hw1 hr hw0 hr1 hN
  go_loopw [5, 6] (fun u i wr => ∃ (j : Nat) (K : Int), j ≤ N ∧ i = .int .i64 K ∧ Hid (K = (N : Int) - 1 - (j : Int)) ∧ -1 ≤ K ∧ K ≤ 127 ∧ Hid (u ≠ .slice none 0 0) ∧ wr.ownsRow w1.heap.size 3 1 u j ((bitsL c j).map (Value.int .i64)) ∧ Below w1.heap.size w1 wr) (fun _ i _ => (intOf i + 1).toNat)
  case atStart => exact ⟨0, (N : Int) - 1, by omega, rfl, (by simp : ((N : Int) - 1 : Int) = (N : Int) - 1 - ((0 : Nat) : Int)), by omega, by have := HN.out; omega, (fun h => by cases h), by rw [← hs1.out]; exact OW0, B2⟩
  case round =>
    clear OW0 B2
    obtain ⟨j, K, hj, rfl, hK, K0, K1', hnn, hown, hb⟩ := hrel
    have hs := hb.size
    have hK' := hK.out
    by_cases hlt : j < N
    · have Kp : 0 ≤ K := by omega
      have cell : wr.cell? ⟨g, o + K.toNat, none⟩ = some (.int .i64 ((bitN c j : Nat) : Int)) := by
        rw [(hb.cell (p := ⟨g, o + K.toNat, none⟩) hgl1), HR.out K.toNat (by omega), show N - 1 - K.toNat = j by omega]
      obtain ⟨bb, hbb⟩ : ∃ bb : Int, bb = ((bitN c j : Nat) : Int) := ⟨_, rfl⟩
      rw [← hbb] at cell
      have hbbH : Hid (bb = ((bitN c j : Nat) : Int)) := hbb
      have hKN : K < (N : Int) := by omega
      have hj9 : j < 200 := by have := HN.out; omega
      have hltH : Hid (j < N) := hlt
      clear hbb hK' hlt hj
      go_wp2_with (first | (at_builtin; refine wpList_append_own _ rfl _ _ 77 rfl w1.heap.size 3 i0 (.int .i64 0) 1 8 Tryz.underlying77 hi hz0 hz1 hz2 rfl (by decide) _ _ _ rfl (hown.alloc _) ⟨wr.heap.size, 0, none⟩ 1 1 [.int .i64 bb] rfl rfl (new_one _ _ _) (by intro u hu; simp at hu; subst hu; rfl) (by unfold maxLen; omega) (by omega) (by simp; omega) ?_))
      intro v' w4 hown4 hgrow hnil
      have hb5 := below_grown hb hs hown hgrow
      have hnn4 : Hid (v' ≠ .slice none 0 0) := hnil
      clear hown hgrow hnil hnn
      go_wp2
      go_roundw
      case measure => simp [intOf]; omega
      case rel =>
        have hK' := hK.out
        have hlt := hltH.out
        refine ⟨j + 1, K - 1, by omega, rfl, by show _ = _; omega, by omega, by omega, hnn4, ?_, hb5⟩
        rw [hbbH.out] at hown4
        simpa [bitsL] using hown4
    · obtain rfl : j = N := by omega
      have Km : K = -1 := by omega
      obtain ⟨g', cap', rfl, hcap', hm', hRw⟩ := bitRow_any hnn.out hown
      have K2 : Blk wr w.heap.size #[.bool false, .int .u64 0, .int .u64 0] 26 := (hb.block w.heap.size (by have := hs1.out; omega)).trans K1
      have hB : Below w.heap.size w wr := B1.trans (hb.mono B1.size)
      have NW := num_w g' j cap' c HN.out hc hcap' hm' wr hRw
      clear hown hb hs hK hK' hRw hm' hcap' hnn
      subst Km
      go_wp2_with fail
      refine NW.mono ?_
      rintro e w5 ⟨h, l, rfl, hn, hb5⟩
      have hnH : Hid (IsNum h l c) := hn
      have hB5 := hB.trans (hb5.mono hB.size)
      obtain ⟨r0, r1, r2, r3, r4, r5, r6⟩ := (K2.below hb5).three
      clear hn hb5 NW hB K2
      go_wp2
      refine bodyPost_ret (v := av v h l) (by simp [results, Tryz.results75, go_sem, World.cell?_setCell_same', World.cell?_setCell_other, *]) rfl ⟨h, l, rfl, hnH.out, by repeat (first | with_reducible exact Below.refl _ _ | with_reducible refine Below.drew ?_ | with_reducible refine Below.alloc ?_ (by first | omega | (simp <;> omega)) _ | with_reducible refine Below.setCell ?_ (by first | omega | (simp <;> omega)) _ | with_reducible refine Below.trans ?_ (Below.mono hB5 (by first | omega | (simp <;> omega))))⟩

set_option maxRecDepth 100000 in
set_option maxHeartbeats 800000 in
theorem num4_is {c N : Nat} {rh rl : Int} (hN : N ≤ 128) (hc : c < 2 ^ N) (hr0 : IsNum rh rl c) (g o cap : Nat) (w : World) (hgl : g < w.heap.size) (hr : ∀ i, i < N → w.cell? ⟨g, o + i, none⟩ = some (.int .i64 ((bitN c (N - 1 - i) : Nat) : Int))) :
    Calls Tryz.prog 78 #[.slice (some ⟨g, o, none⟩) N cap] w fun e w' => e = .returned (nv rh rl) ∧ Below w.heap.size w w' := by
  have A := raddr_any true hN hc g o cap (w.alloc (.cells #[.int .u64 0, .int .u64 0] 24)) (by simp; omega) (fun i hi => by rw [World.cell?_alloc_lt _ _ _ hgl]; exact hr i hi)
  have A' : Hid (Calls Tryz.prog 75 #[.bool true, .slice (some ⟨g, o, none⟩) N cap] (w.alloc (.cells #[.int .u64 0, .int .u64 0] 24)) fun e w' => e = .returned (av true rh rl) ∧ Below (w.alloc (.cells #[.int .u64 0, .int .u64 0] 24)).heap.size (w.alloc (.cells #[.int .u64 0, .int .u64 0] 24)) w') := by
    refine A.mono ?_
    rintro e w' ⟨h, l, rfl, hn, hb⟩
    obtain ⟨rfl, rfl⟩ := hn.uniq hr0
    exact ⟨rfl, hb⟩
  have hfd : ∀ w, (Instr.field 26 (av true rh rl) 1).run Tryz.prog w = .ok (nv rh rl) w := fun _ => by kernel_rfl
  clear A hN hc hr0 hr hgl
  go_enter Tryz.func78, Tryz.ntmps78
  go_wp2_with fail
  refine A'.out.mono ?_
  rintro e w1 ⟨rfl, hb1⟩
  obtain ⟨hc1, hf1⟩ := bcell hb1
  have hz_w1_0 : w.heap.size < w1.heap.size   := (by have := hb1.size; first | omega | (simp at this; omega))
  clear A'
  go_wp2
  refine bodyPost_ret (v := nv rh rl) (by simp [results, Tryz.results78, go_sem, World.cell?_setCell_same', World.cell?_setCell_other, *]) rfl ⟨rfl, by repeat (first | with_reducible exact Below.refl _ _ | with_reducible refine Below.drew ?_ | with_reducible refine Below.alloc ?_ (by first | omega | (simp <;> omega)) _ | with_reducible refine Below.setCell ?_ (by first | omega | (simp <;> omega)) _ | with_reducible refine Below.trans ?_ (Below.mono hb1 (by first | omega | (simp <;> omega))))⟩

theorem row_any {v : Bool} {W : Nat} (hW : widthA v = (W : Nat)) {h l : Int} {a : Nat} (ha : IsNum h l a) (w : World) :
    Calls Tryz.prog 59 #[av v h l] w fun e w' => ∃ g cap, e = .returned (.slice (some ⟨g, 0, none⟩) W cap) ∧ W ≤ cap ∧ cap ≤ maxLen ∧ Rw w' g W (fun i => bitN a (W - 1 - i)) ∧ Below w.heap.size w w' := by
  cases v
  · obtain rfl : W = 32 := by have : widthA false = 32 := rfl; omega
    refine (row_32 ha w).mono ?_
    rintro e w' ⟨g, cap, rfl, _, h1, h2, h3, h4⟩
    exact ⟨g, cap, rfl, h1, h2, h3, h4⟩
  · obtain rfl : W = 128 := by have : widthA true = 128 := rfl; omega
    refine (row_128 ha w).mono ?_
    rintro e w' ⟨g, cap, rfl, _, h1, h2, h3, h4⟩
    exact ⟨g, cap, rfl, h1, h2, h3, h4⟩
end Go.Proofs.YtmhnfgfdggjdhaaGreatDoor
