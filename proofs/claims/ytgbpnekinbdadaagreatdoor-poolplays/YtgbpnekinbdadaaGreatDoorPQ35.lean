/-
  Texts Ref4 of the proof.
-/
import Derived.Deep.DeepCutAuto
import Derived.Test.YtgbpnekinbdadaaGreatDoorPQ33
import Derived.Test.YtgbpnekinbdadaaGreatDoorPQ19
import Derived.Test.YtgbpnekinbdadaaGreatDoorPQ34
import Derived.Test.YtgbpnekinbdadaaGreatDoorPQ30
import Derived.Test.YtgbpnekinbdadaaGreatDoorPQ0

namespace Go.Proofs.YtgbpnekinbdadaaGreatDoor
open Go.ChangeShapes Go.WideShapes Go.ChangeAt Go.RowKit
set_option linter.unusedVariables false
set_option linter.unusedSimpArgs false

theorem bitRow_any {w : World} {base n a : Nat} {v : Value} (hn : v ≠ .slice none 0 0) (h : w.ownsRow base 3 1 v n ((bitsL a n).map (Value.int .i64))) :
  ∃ g cap, v = .slice (some ⟨g, 0, none⟩) n cap ∧ n ≤ cap ∧ cap ≤ maxLen ∧ BitRow w g n a := by
 by_cases c : 0 < n
 ·obtain ⟨g, cap, e, _, h1, h2, h3⟩ := bitRow_of c h
  exact ⟨g, cap, e, h1, h2, h3⟩
 ·obtain rfl : n = 0 := by omega
  have h' := h
  obtain ⟨hl, ⟨rfl, h0⟩ | ⟨g, cap, cur, rfl, hg, hh, hc, hm, hs, ht⟩⟩ := h'
  ·exact absurd rfl hn
  ·exact ⟨g, cap, rfl, hc, hm, (h.lt g rfl).2, fun i hi => by omega⟩

set_option maxRecDepth 100000 in
set_option maxHeartbeats 1600000 in
theorem raddr_any (v : Bool) {c N : Nat} (hN : N ≤ 128) (hc : c < 2 ^ N) (g o cap : Nat) (w : World) (hgl : g < w.heap.size) (hr : ∀ i, i < N → w.cell? ⟨g, o + i, none⟩ = some (.int .i64 ((bitN c (N - 1 - i) : Nat) : Int))) :
  Calls Tryz.prog 91 #[.bool v, .slice (some ⟨g, o, none⟩) N cap] w fun e w' => ∃ h l, e = .returned (av v h l) ∧ IsNum h l c ∧ Below w.heap.size w w' := by
 obtain ⟨i0, hi, hz0, hz1, hz2⟩ := info_parts infoInt
 have hw0 : IntKind.i64.wrap ((N : Int) - 1) = (N : Int) - 1 := by simp [IntKind.wrap, IntKind.bits, IntKind.signed]; omega
 go_enter Tryz.func91, Tryz.ntmps91
 go_wp2_with fail
 obtain ⟨w1, hw1⟩ : ∃ w1, w1 = w.alloc (.cells #[.bool false, .int .u64 0, .int .u64 0] 26) := ⟨_, rfl⟩
 have K1 : Blk w1 w.heap.size #[.bool false, .int .u64 0, .int .u64 0] 26 := by rw [hw1]; exact Blk.new _ _ _
 have B1 : Below w.heap.size w w1 := by rw [hw1]; exact (Below.refl _ _).alloc (Nat.le_refl _) _
 have hr1 : ∀ i, i < N → w1.cell? ⟨g, o + i, none⟩ = some (.int .i64 ((bitN c (N - 1 - i) : Nat) : Int)) := by
  intro i hi
  rw [hw1, World.cell?_alloc_lt _ _ _ hgl]
  exact hr i hi
 have hgl1 : g < w1.heap.size := by rw [hw1]; simp; omega
 have OW0 : (w1.alloc (.cells #[] 3)).ownsRow w1.heap.size 3 1 (.slice (some ⟨w1.heap.size, 0, none⟩) 0 0) 0 [] := by
  have := World.ownsRow_made (base := w1.heap.size) (e := 3) (size := 1) w1 #[] 0 (Nat.le_refl _) (by unfold maxLen; omega) (by simp)
  simpa using this
 have B2 : Below w1.heap.size w1 (w1.alloc (.cells #[] 3)) := (Below.refl _ _).alloc (Nat.le_refl _) _
 rw [← hw1]
 have hs1 : Hid (w1.heap.size = w.heap.size + 1) := by show _ = _; rw [hw1]; simp
 have HN : Hid (N ≤ 128) := hN
 have HR : Hid (∀ i, i < N → w1.cell? ⟨g, o + i, none⟩ = some (.int .i64 ((bitN c (N - 1 - i) : Nat) : Int))) := hr1
 clear hw1 hr hw0 hr1 hN
 go_loopw [5, 6] (fun u i wr => ∃ (j : Nat) (K : Int), j ≤ N ∧ i = .int .i64 K ∧ Hid (K = (N : Int) - 1 - (j : Int)) ∧ -1 ≤ K ∧ K ≤ 127 ∧ Hid (u ≠ .slice none 0 0) ∧ wr.ownsRow w1.heap.size 3 1 u j ((bitsL c j).map (Value.int .i64)) ∧ Below w1.heap.size w1 wr) (fun _ i _ => (intOf i + 1).toNat)
 case atStart => exact ⟨0, (N : Int) - 1, by omega, rfl, (by simp : ((N : Int) - 1 : Int) = (N : Int) - 1 - ((0 : Nat) : Int)), by omega, by have := HN.out; omega, (fun h => by cases h), by rw [← hs1.out]; exact OW0, B2⟩
 case round =>
  clear OW0 B2
  obtain ⟨j, K, hj, rfl, hK, K0, K1', hnn, hown, hb⟩ := hrel
  have hs := hb.size
  have hK' := hK.out
  by_cases hlt : j < N
  ·have Kp : 0 ≤ K := by omega
   have cell : wr.cell? ⟨g, o + K.toNat, none⟩ = some (.int .i64 ((bitN c j : Nat) : Int)) := by
    rw [(hb.cell (p := ⟨g, o + K.toNat, none⟩) hgl1), HR.out K.toNat (by omega), show N - 1 - K.toNat = j by omega]
   obtain ⟨bb, hbb⟩ : ∃ bb : Int, bb = ((bitN c j : Nat) : Int) := ⟨_, rfl⟩
   rw [← hbb] at cell
   have hbbH : Hid (bb = ((bitN c j : Nat) : Int)) := hbb
   have hKN : K < (N : Int) := by omega
   have hj9 : j < 200 := by have := HN.out; omega
   have hltH : Hid (j < N) := hlt
   clear hbb hK' hlt hj
   go_wp2_with (first | (at_builtin; refine wpList_append_own _ rfl _ _ 57 rfl w1.heap.size 3 i0 (.int .i64 0) 1 8 Tryz.underlying57 hi hz0 hz1 hz2 rfl (by decide) _ _ _ rfl (hown.alloc _) ⟨wr.heap.size, 0, none⟩ 1 1 [.int .i64 bb] rfl rfl (new_one _ _ _) (by intro u hu; simp at hu; subst hu; rfl) (by unfold maxLen; omega) (by omega) (by simp; omega) ?_))
   intro v' w4 hown4 hgrow hnil
   have hb5 := below_grown hb hs hown hgrow
   have hnn4 : Hid (v' ≠ .slice none 0 0) := hnil
   clear hown hgrow hnil hnn
   go_wp2
   go_roundw
   case measure => simp [intOf]; omega
   case rel =>
    have hK' := hK.out
    have hlt := hltH.out
    refine ⟨j + 1, K - 1, by omega, rfl, by show _ = _; omega, by omega, by omega, hnn4, ?_, hb5⟩
    rw [hbbH.out] at hown4
    simpa [bitsL] using hown4
  ·obtain rfl : j = N := by omega
   have Km : K = -1 := by omega
   obtain ⟨g', cap', rfl, hcap', hm', hRw⟩ := bitRow_any hnn.out hown
   have K2 : Blk wr w.heap.size #[.bool false, .int .u64 0, .int .u64 0] 26 := (hb.block w.heap.size (by have := hs1.out; omega)).trans K1
   have hB : Below w.heap.size w wr := B1.trans (hb.mono B1.size)
   have NW := num_w g' j cap' c HN.out hc hcap' hm' wr hRw
   clear hown hb hs hK hK' hRw hm' hcap' hnn
   subst Km
   go_wp2_with fail
   refine NW.mono ?_
   rintro e w5 ⟨h, l, rfl, hn, hb5⟩
   have hnH : Hid (IsNum h l c) := hn
   have hB5 := hB.trans (hb5.mono hB.size)
   obtain ⟨r0, r1, r2, r3, r4, r5, r6⟩ := (K2.below hb5).three
   clear hn hb5 NW hB K2
   go_wp2
   refine bodyPost_ret (v := av v h l) (by simp [results, Tryz.results91, go_sem, World.cell?_setCell_same', World.cell?_setCell_other, *]) rfl ⟨h, l, rfl, hnH.out, by repeat (first | with_reducible exact Below.refl _ _ | with_reducible refine Below.drew ?_ | with_reducible refine Below.alloc ?_ (by first | omega | (simp <;> omega)) _ | with_reducible refine Below.setCell ?_ (by first | omega | (simp <;> omega)) _ | with_reducible refine Below.trans ?_ (Below.mono hB5 (by first | omega | (simp <;> omega))))⟩

set_option maxRecDepth 100000 in
set_option maxHeartbeats 800000 in
theorem num4_is {c N : Nat} {rh rl : Int} (hN : N ≤ 128) (hc : c < 2 ^ N) (hr0 : IsNum rh rl c) (g o cap : Nat) (w : World) (hgl : g < w.heap.size) (hr : ∀ i, i < N → w.cell? ⟨g, o + i, none⟩ = some (.int .i64 ((bitN c (N - 1 - i) : Nat) : Int))) :
  Calls Tryz.prog 103 #[.slice (some ⟨g, o, none⟩) N cap] w fun e w' => e = .returned (nv rh rl) ∧ Below w.heap.size w w' := by
 have A := raddr_any true hN hc g o cap (w.alloc (.cells #[.int .u64 0, .int .u64 0] 24)) (by simp; omega) (fun i hi => by rw [World.cell?_alloc_lt _ _ _ hgl]; exact hr i hi)
 have A' : Hid (Calls Tryz.prog 91 #[.bool true, .slice (some ⟨g, o, none⟩) N cap] (w.alloc (.cells #[.int .u64 0, .int .u64 0] 24)) fun e w' => e = .returned (av true rh rl) ∧ Below (w.alloc (.cells #[.int .u64 0, .int .u64 0] 24)).heap.size (w.alloc (.cells #[.int .u64 0, .int .u64 0] 24)) w') := by
  refine A.mono ?_
  rintro e w' ⟨h, l, rfl, hn, hb⟩
  obtain ⟨rfl, rfl⟩ := hn.uniq hr0
  exact ⟨rfl, hb⟩
 have hfd : ∀ w, (Instr.field 26 (av true rh rl) 1).run Tryz.prog w = .ok (nv rh rl) w := fun _ => by kernel_rfl
 clear A hN hc hr0 hr hgl
 go_enter Tryz.func103, Tryz.ntmps103
 go_wp2_with fail
 refine A'.out.mono ?_
 rintro e w1 ⟨rfl, hb1⟩
 obtain ⟨hc1, hf1⟩ := bcell hb1
 have hz_w1_0 : w.heap.size < w1.heap.size   := (by have := hb1.size; first | omega | (simp at this; omega))
 clear A'
 go_wp2
 refine bodyPost_ret (v := nv rh rl) (by simp [results, Tryz.results103, go_sem, World.cell?_setCell_same', World.cell?_setCell_other, *]) rfl ⟨rfl, by repeat (first | with_reducible exact Below.refl _ _ | with_reducible refine Below.drew ?_ | with_reducible refine Below.alloc ?_ (by first | omega | (simp <;> omega)) _ | with_reducible refine Below.setCell ?_ (by first | omega | (simp <;> omega)) _ | with_reducible refine Below.trans ?_ (Below.mono hb1 (by first | omega | (simp <;> omega))))⟩

theorem row_any {v : Bool} {W : Nat} (hW : widthA v = (W : Nat)) {h l : Int} {a : Nat} (ha : IsNum h l a) (w : World) :
  Calls Tryz.prog 90 #[av v h l] w fun e w' => ∃ g cap, e = .returned (.slice (some ⟨g, 0, none⟩) W cap) ∧ W ≤ cap ∧ cap ≤ maxLen ∧ Rw w' g W (fun i => bitN a (W - 1 - i)) ∧ Below w.heap.size w w' := by
 cases v
 ·obtain rfl : W = 32 := by have : widthA false = 32 := rfl; omega
  refine (row_32 ha w).mono ?_
  rintro e w' ⟨g, cap, rfl, _, h1, h2, h3, h4⟩
  exact ⟨g, cap, rfl, h1, h2, h3, h4⟩
 ·obtain rfl : W = 128 := by have : widthA true = 128 := rfl; omega
  refine (row_128 ha w).mono ?_
  rintro e w' ⟨g, cap, rfl, _, h1, h2, h3, h4⟩
  exact ⟨g, cap, rfl, h1, h2, h3, h4⟩


theorem bitN_div (m s j : Nat) : bitN (m / 2 ^ s) j = bitN m (s + j) := by
 unfold bitN
 rw [Nat.div_div_eq_div_mul, ← Nat.pow_add]

/-- A piece of a row of bits. -/
theorem piece_bits {W m B C i : Nat} (hC : C ≤ W) (hB : B ≤ C) (hi : i < C - B) : bitN (m / 2 ^ (W - C) % 2 ^ (C - B)) (C - B - 1 - i) = bitN m (W - 1 - (B + i)) := by
 rw [bitN_mod _ _ _ (by omega), bitN_div]
 congr 1
 omega

/-- Its number is what is behind the prefix. -/
theorem piece_num {v : Bool} {n m W B C : Nat} (hW : widthA v = (W : Nat)) (hC : C ≤ W) (hB : B ≤ C) (hn : n = ofN v m (B : Nat)) : m / 2 ^ (W - C) % 2 ^ (C - B) = numN v n (C : Nat) m := by
 have e1 : behindP v (B : Nat) = W - B := by unfold behindP; omega
 have e2 : behindP v (C : Nat) = W - C := by unfold behindP; omega
 have e3 : W - B = W - C + (C - B) := by omega
 have md := Nat.div_add_mod m (2 ^ (W - B))
 have : m - n = m % 2 ^ (W - B) := by
  rw [hn]; unfold ofN; rw [e1]
  rw [Nat.mul_comm] at md
  omega
 unfold numN
 rw [e2, this, e3, Nat.pow_add, Nat.mod_mul_right_div_self]

theorem width_nat4 (v : Bool) : ∃ W : Nat, widthA v = (W : Nat) := by
 cases v
 ·exact ⟨32, rfl⟩
 ·exact ⟨128, rfl⟩

theorem nmb_start (w : World) (v : Bool) (h l b : Int) (u : Bool) (ah al : Int) : Kn w [(w.heap.size + 1 + 1, [.int .u64 0, .int .u64 0], 24), (w.heap.size + 1, [.bool u, .int .u64 ah, .int .u64 al], 26), (w.heap.size, [.bool v, .int .u64 h, .int .u64 l, .int .i64 b], 28)] (((w.alloc (.cells #[.bool v, .int .u64 h, .int .u64 l, .int .i64 b] 28)).alloc (.cells #[.bool u, .int .u64 ah, .int .u64 al] 26)).alloc (.cells #[.int .u64 0, .int .u64 0] 24)) :=
 (((Kn.nil w).push rfl).push (by simp)).push (by simp)

set_option maxRecDepth 100000 in
set_option maxHeartbeats 800000 in
theorem rnmb_no {v u : Bool} {h l b ah al : Int} {n : Nat} (hp : IsNum h l n) (hk : okP v n b = false) (w : World) :
  Calls Tryz.prog 59 #[pv v h l b, av u ah al] w fun e w' => e = .returned (.tuple #[nv 0 0, .int .i64 1]) ∧ Below w.heap.size w w' := by
 have R1 : Hid (∀ w', Calls Tryz.prog 10 #[pv v h l b] w' fun e w1 => e = .returned (.bool false) ∧ Below w'.heap.size w' w1) := fun w' => hk ▸ rpright_c hp w'
 have K := nmb_start w v h l b u ah al
 clear hp hk
 go_enter Tryz.func59, Tryz.ntmps59
 go_wp2_with fail
 refine (R1.out _).mono ?_
 rintro e w1 ⟨rfl, hb⟩
 replace K := K.below hb
 have F := K.1
 simp only [Facts, CellsAt] at F
 clear hb R1
 obtain ⟨r0, r1, r2, r3, r4⟩ := K.2.1.1.two
 have B := K.bel
 clear K F
 go_wp2
 refine bodyPost_ret (v := .tuple #[nv 0 0, .int .i64 1]) (by simp [results, Tryz.results59, go_sem, World.cell?_setCell_same', World.cell?_setCell_other, *]) rfl ⟨rfl, by repeat (first | with_reducible exact Below.refl _ _ | with_reducible refine Below.drew ?_ | with_reducible refine Below.alloc ?_ (by first | omega | (simp <;> omega)) _ | with_reducible refine Below.setCell ?_ (by first | omega | (simp <;> omega)) _ | with_reducible refine Below.trans ?_ (Below.mono B (by first | omega | (simp <;> omega))))⟩

set_option maxRecDepth 100000 in
set_option maxHeartbeats 800000 in
theorem rnmb_out {v u : Bool} {h l b ah al : Int} {n a : Nat} (hp : IsNum h l n) (ha : IsNum ah al a) (hk : okP v n b = true) (hh : hasB v n b u a = false) (w : World) :
  Calls Tryz.prog 59 #[pv v h l b, av u ah al] w fun e w' => e = .returned (.tuple #[nv 0 0, .int .i64 12]) ∧ Below w.heap.size w w' := by
 have R1 : Hid (∀ w', Calls Tryz.prog 10 #[pv v h l b] w' fun e w1 => e = .returned (.bool true) ∧ Below w'.heap.size w' w1) := fun w' => hk ▸ rpright_c hp w'
 have H1 : Hid (∀ w', Calls Tryz.prog 102 #[pv v h l b, av u ah al] w' fun e w1 => e = .returned (.bool false) ∧ Below w'.heap.size w' w1) := fun w' => hh ▸ rhas_c hp ha w'
 have K := nmb_start w v h l b u ah al
 clear hp ha hk hh
 go_enter Tryz.func59, Tryz.ntmps59
 go_wp2_with fail
 refine (R1.out _).mono ?_
 rintro e w1 ⟨rfl, hb⟩
 replace K := K.below hb
 have F := K.1
 simp only [Facts, CellsAt] at F
 clear hb R1
 go_wp2_with fail
 refine (H1.out _).mono ?_
 rintro e w2 ⟨rfl, hb⟩
 replace K := K.below hb
 replace F := K.1
 simp only [Facts, CellsAt] at F
 clear hb H1
 obtain ⟨r0, r1, r2, r3, r4⟩ := K.2.1.1.two
 have B := K.bel
 clear K F
 go_wp2
 refine bodyPost_ret (v := .tuple #[nv 0 0, .int .i64 12]) (by simp [results, Tryz.results59, go_sem, World.cell?_setCell_same', World.cell?_setCell_other, *]) rfl ⟨rfl, by repeat (first | with_reducible exact Below.refl _ _ | with_reducible refine Below.drew ?_ | with_reducible refine Below.alloc ?_ (by first | omega | (simp <;> omega)) _ | with_reducible refine Below.setCell ?_ (by first | omega | (simp <;> omega)) _ | with_reducible refine Below.trans ?_ (Below.mono B (by first | omega | (simp <;> omega))))⟩

set_option maxRecDepth 100000 in
set_option maxHeartbeats 1600000 in
theorem rnmb_ok {v : Bool} {h l b ah al rh rl : Int} {n a : Nat} (hp : IsNum h l n) (ha : IsNum ah al a) (hh : hasB v n b v a = true) (hr : IsNum rh rl (a - n)) (w : World) :
  Calls Tryz.prog 59 #[pv v h l b, av v ah al] w fun e w' => e = .returned (.tuple #[nv rh rl, .int .i64 0]) ∧ Below w.heap.size w w' := by
 have hk := has_ok hh
 have R1 : Hid (∀ w', Calls Tryz.prog 10 #[pv v h l b] w' fun e w1 => e = .returned (.bool true) ∧ Below w'.heap.size w' w1) := fun w' => hk ▸ rpright_c hp w'
 have H1 : Hid (∀ w', Calls Tryz.prog 102 #[pv v h l b, av v ah al] w' fun e w1 => e = .returned (.bool true) ∧ Below w'.heap.size w' w1) := fun w' => hh ▸ rhas_c hp ha w'
 obtain ⟨W, hW⟩ := width_nat4 v
 obtain ⟨op, b0, b1⟩ := fitsB_parts (okP_parts hk).1
 obtain ⟨B, hB⟩ : ∃ B : Nat, b = (B : Int) := ⟨b.toNat, by omega⟩
 have hW2 := width_le v
 have cv := piece_num (v := v) (n := n) (m := a) hW (B := B) (C := W) (by omega) (by omega) (by rw [← hB]; exact (has_parts hh).2.2)
 have e0 : numN v n (W : Nat) a = a - n := by
  unfold numN behindP; rw [hW, Int.sub_self]; simp
 have RO : Hid (∀ w', Calls Tryz.prog 90 #[av v ah al] w' fun e w1 => ∃ g o cap N, e = .returned (.slice (some ⟨g, 0, none⟩) W cap) ∧ (∀ W', (Instr.sliceAt 57 (.slice (some ⟨g, 0, none⟩) W cap) (some (.int .i64 b)) none none).run Tryz.prog W' = .ok (.slice (some ⟨g, o, none⟩) N (cap - B)) W') ∧ Hid (Calls Tryz.prog 103 #[.slice (some ⟨g, o, none⟩) N (cap - B)] w1 fun e w2 => e = .returned (nv rh rl) ∧ Below w1.heap.size w1 w2) ∧ Below w'.heap.size w' w1) := fun w' => by
  refine (row_any hW ha w').mono ?_
  rintro e w1 ⟨g, cap, rfl, hcap, hm, hRw, hb⟩
  have cells (o : Nat) (ho : o = B ∨ W - B = 0) : ∀ i, i < W - B → w1.cell? ⟨g, o + i, none⟩ = some (.int .i64 ((bitN (a / 2 ^ (W - W) % 2 ^ (W - B)) (W - B - 1 - i) : Nat) : Int)) := by
   intro i hi
   obtain rfl : o = B := by omega
   rw [piece_bits (by omega) (by omega) hi]
   exact hRw.2.1 (o + i) (by omega)
  have numc (o : Nat) (ho : o = B ∨ W - B = 0) := num4_is (N := W - B) (by omega) (Nat.mod_lt _ (pow_pos2 _)) (hr.cast (by rw [cv, e0])) g o (cap - B) w1 hRw.1 (cells o ho)
  by_cases hcq : cap = B
  ·refine ⟨g, 0, cap, W - B, rfl, fun W' => ?_, numc 0 (by omega), hb⟩
   have q1 : W ≤ B := by omega
   have q2 : B ≤ W := by omega
   clear numc cells
   subst hB
   go_simp
   try (intro hx; omega)
  ·refine ⟨g, B, cap, W - B, rfl, fun W' => ?_, numc B (by omega), hb⟩
   have q1 : W ≤ cap := by omega
   have q2 : B ≤ W := by omega
   clear numc cells
   subst hB
   go_simp
   try (intro hx; omega)
 have K := nmb_start w v h l b v ah al
 clear hp ha hk hh hr op b0 b1 hW2 cv hW hB e0
 go_enter Tryz.func59, Tryz.ntmps59
 go_wp2_with fail
 refine (R1.out _).mono ?_
 rintro e w1 ⟨rfl, hb⟩
 replace K := K.below hb
 have F := K.1
 simp only [Facts, CellsAt] at F
 clear hb R1
 go_wp2_with fail
 refine (H1.out _).mono ?_
 rintro e w3 ⟨rfl, hb⟩
 replace K := K.below hb
 replace F := K.1
 simp only [Facts, CellsAt] at F
 clear hb H1
 have R0 : Kn w [(w.heap.size + 1, [.bool v, .int .u64 ah, .int .u64 al], 26), (w.heap.size, [.bool v, .int .u64 h, .int .u64 l, .int .i64 b], 28)] w3 := K.tail
 have N0 := K.2.1.1
 clear K F
 go_wp2_with fail
 refine wp_region_held_drew (S := (Kn w [(w.heap.size + 1, [.bool v, .int .u64 ah, .int .u64 al], 26), (w.heap.size, [.bool v, .int .u64 h, .int .u64 l, .int .i64 b], 28)])) (by kernel_rfl) ?hS100 (fun hHeld => ?rest100)
 case hS100 => (first | with_reducible exact R0.drew | with_reducible exact hHeld.below hb4 | with_reducible exact hHeld.below hb5 | exact hHeld.far2 (by simp only [Off]; repeat' (first | exact trivial | refine And.intro ?_ ?_ | omega)) (by omega) _ _)
 refine w8 0 ?_ (ga7 rfl) (by kernel_rfl) (fun _ _ _ h => h) ⟨by rfl, ?y101⟩ hHeld ?_
 case y101 => (intro wq hSw; (try simp only [Two, Kn, Facts, CellsAt] at hSw); go_simp; try with_reducible rfl)
 try simp only [Act.put, a7, b7, c7]
 refine w8 2 ?_ (ga7 rfl) (by kernel_rfl) (fun _ _ _ h => h) ⟨by rfl, ?y102⟩ hHeld ?_
 case y102 => (intro wq hSw; (try simp only [Two, Kn, Facts, CellsAt] at hSw); go_simp; try with_reducible rfl)
 try simp only [Act.put, a7, b7, c7]
 refine w8 3 ?_ (ga7 rfl) (by kernel_rfl) (fun _ _ _ h => h) ⟨by rfl, ?y103⟩ hHeld ?_
 case y103 => (intro wq hSw; (try simp only [Two, Kn, Facts, CellsAt] at hSw); go_simp; try with_reducible rfl)
 try simp only [Act.put, a7, b7, c7]
 refine wpAnyH_ready (rs := [1]) (by kernel_rfl) (by simp) ?rdy104
 refine AllReadyH.cons (ga7 rfl) (fun K hK => ?stp104) AllReadyH.nil
 go_simp
 go_wp2_with fail
 (refine (RO.out _).mono ?_; rintro e w4 ⟨g, o, cap, N, rfl, sl, NU, hb4⟩)
 go_wp2_with fail
 refine hK.out _ _ ?hSn104 (fun hHeld2 => ?rest104)
 case hSn104 => (first | with_reducible exact R0.drew | with_reducible exact hHeld.below hb4 | with_reducible exact hHeld.below hb5 | exact hHeld.far2 (by simp only [Off]; repeat' (first | exact trivial | refine And.intro ?_ ?_ | omega)) (by omega) _ _)
 clear hK K hHeld
 have hHeld := hHeld2
 clear hHeld2
 try simp only [Act.put, a7, b7, c7]
 refine w8 4 ?_ (ga7 rfl) (by kernel_rfl) (fun _ _ _ h => h) ⟨by rfl, ?y105⟩ hHeld ?_
 case y105 => (intro wq hSw; (try simp only [Two, Kn, Facts, CellsAt] at hSw); go_simp; try with_reducible rfl)
 try simp only [Act.put, a7, b7, c7]
 refine wpAnyH_ready (rs := [5]) (by kernel_rfl) (by simp) ?rdy106
 refine AllReadyH.cons (ga7 rfl) (fun K hK => ?stp106) AllReadyH.nil
 go_simp
 go_wp2_with fail
 (refine NU.out.mono ?_; rintro e w5 ⟨rfl, hb5⟩; have B5 := (hHeld.below hb5).bel; obtain ⟨r0, r1, r2, r3, r4⟩ := ((N0.via hb4 rfl).below hb5).two)
 go_wp2_with fail
 refine hK.out _ _ ?hSn106 (fun hHeld2 => ?rest106)
 case hSn106 => (first | with_reducible exact R0.drew | with_reducible exact hHeld.below hb4 | with_reducible exact hHeld.below hb5 | exact hHeld.far2 (by simp only [Off]; repeat' (first | exact trivial | refine And.intro ?_ ?_ | omega)) (by omega) _ _)
 clear hK K hHeld
 have hHeld := hHeld2
 clear hHeld2
 try simp only [Act.put, a7, b7, c7]
 refine wpAnyH_ready (rs := [6]) (by kernel_rfl) (by simp) ?rdy107
 refine AllReadyH.cons (ga7 rfl) (fun K hK => ?stp107) AllReadyH.nil
 go_simp
 go_wp2_with fail
 skip
 go_wp2_with fail
 refine hK.out _ _ ?hSn107 (fun hHeld2 => ?rest107)
 case hSn107 => (first | with_reducible exact R0.drew | with_reducible exact hHeld.below hb4 | with_reducible exact hHeld.below hb5 | exact hHeld.far2 (by simp only [Off]; repeat' (first | exact trivial | refine And.intro ?_ ?_ | omega)) (by omega) _ _)
 clear hK K hHeld
 have hHeld := hHeld2
 clear hHeld2
 try simp only [Act.put, a7, b7, c7]
 refine w8 7 ?_ (ga7 rfl) (by kernel_rfl) (fun _ _ _ h => h) ⟨by rfl, ?y108⟩ hHeld ?_
 case y108 => (intro wq hSw; (try simp only [Two, Kn, Facts, CellsAt] at hSw); go_simp; try with_reducible rfl)
 try simp only [Act.put, a7, b7, c7]
 refine wpAnyH_done (by kernel_rfl) ?fin100 _
 clear hHeld hb4 hb5 R0 N0 RO NU sl
 go_wp2
 refine bodyPost_ret (v := .tuple #[nv rh rl, .int .i64 0]) (by simp [results, Tryz.results59, go_sem, World.cell?_setCell_same', World.cell?_setCell_other, *]) rfl ⟨rfl, by repeat (first | with_reducible exact Below.refl _ _ | with_reducible refine Below.drew ?_ | with_reducible refine Below.alloc ?_ (by first | omega | (simp <;> omega)) _ | with_reducible refine Below.setCell ?_ (by first | omega | (simp <;> omega)) _ | with_reducible refine Below.trans ?_ (Below.mono B5 (by first | omega | (simp <;> omega))))⟩

set_option maxRecDepth 100000 in
set_option maxHeartbeats 1600000 in
theorem host_any {v rv : Bool} {h l b ih il rh rl rb ec W : Int} (hW : widthA v = W) (BK : Hid (∀ w', Calls Tryz.prog 138 #[pv v h l b, .int .i64 W, nv ih il] w' fun e w1 => e = .returned (.tuple #[pv rv rh rl rb, .int .i64 ec]) ∧ Below w'.heap.size w' w1)) (w : World) :
  Calls Tryz.prog 107 #[pv v h l b, nv ih il] w fun e w' => e = .returned (.tuple #[av rv rh rl, .int .i64 ec]) ∧ Below w.heap.size w w' := by
 have CW : Hid (∀ w', Calls Tryz.prog 35 #[av v h l] w' fun e w1 => e = .returned (.int .i64 W) ∧ Below w'.heap.size w' w1) := fun w' => width_lit v W hW h l w'
 have R0 : Kn w [(w.heap.size + 1 + 1, [.bool false, .int .u64 0, .int .u64 0], 26), (w.heap.size + 1, [.int .u64 ih, .int .u64 il], 24), (w.heap.size, [.bool v, .int .u64 h, .int .u64 l, .int .i64 b], 28)] (((w.alloc (.cells #[.bool v, .int .u64 h, .int .u64 l, .int .i64 b] 28)).alloc (.cells #[.int .u64 ih, .int .u64 il] 24)).alloc (.cells #[.bool false, .int .u64 0, .int .u64 0] 26)) := (((Kn.nil w).push rfl).push (by simp)).push (by simp)
 obtain ⟨w0, hw0⟩ : ∃ w0, w0 = ((w.alloc (.cells #[.bool v, .int .u64 h, .int .u64 l, .int .i64 b] 28)).alloc (.cells #[.int .u64 ih, .int .u64 il] 24)).alloc (.cells #[.bool false, .int .u64 0, .int .u64 0] 26) := ⟨_, rfl⟩
 rw [← hw0] at R0
 have LT := R0.lts
 simp only [Lts] at LT
 have hs0 := R0.bel.size
 clear hW
 go_enter Tryz.func107, Tryz.ntmps107
 go_upto_region 1 with fail
 rw [← hw0]
 clear hw0
 go_cut [6, 7] (fun p t wc => ∃ X : Nat, p = .pointer (some ⟨X, 0, none⟩) ∧ t = .int .i64 ec ∧ w.heap.size + 1 + 1 < X ∧ Blk wc X #[.bool rv, .int .u64 rh, .int .u64 rl, .int .i64 rb] 28 ∧ Kn w [(w.heap.size + 1 + 1, [.bool false, .int .u64 0, .int .u64 0], 26), (w.heap.size + 1, [.int .u64 ih, .int .u64 il], 24), (w.heap.size, [.bool v, .int .u64 h, .int .u64 l, .int .i64 b], 28)] wc)
 case first =>
  refine wp_region_held_drew (S := (Kn w [(w.heap.size + 1 + 1, [.bool false, .int .u64 0, .int .u64 0], 26), (w.heap.size + 1, [.int .u64 ih, .int .u64 il], 24), (w.heap.size, [.bool v, .int .u64 h, .int .u64 l, .int .i64 b], 28)])) (by kernel_rfl) ?hS5001 (fun hHeld => ?rest5001)
  case hS5001 => (first | with_reducible exact R0.drew | with_reducible exact (R0.alloc _).drew | with_reducible exact hHeld.below hb4 | with_reducible exact hHeld.below hb5 | with_reducible exact hHeld.alloc _ | with_reducible exact K5.alloc _ | with_reducible exact hHeld.far4 (by simp only [Off]; repeat' (first | exact trivial | refine And.intro ?_ ?_ | omega)) (by omega) _ _ _ _ | with_reducible exact K5.far4 (by simp only [Off]; repeat' (first | exact trivial | refine And.intro ?_ ?_ | omega)) (by omega) _ _ _ _ | with_reducible exact (K5.alloc _).far4 (by simp only [Off]; repeat' (first | exact trivial | refine And.intro ?_ ?_ | omega)) (by omega) _ _ _ _)
  refine w8 0 ?_ (ga7 rfl) (by kernel_rfl) (fun _ _ _ h => h) ⟨by rfl, ?y5002⟩ hHeld ?_
  case y5002 => (intro wq hSw; (try simp only [Two, Kn, Facts, CellsAt] at hSw); go_simp; try with_reducible rfl)
  try simp only [Act.put, a7, b7, c7]
  refine w8 1 ?_ (ga7 rfl) (by kernel_rfl) (fun _ _ _ h => h) ⟨by rfl, ?y5003⟩ hHeld ?_
  case y5003 => (intro wq hSw; (try simp only [Two, Kn, Facts, CellsAt] at hSw); go_simp; try with_reducible rfl)
  try simp only [Act.put, a7, b7, c7]
  refine w8 2 ?_ (ga7 rfl) (by kernel_rfl) (fun _ _ _ h => h) ⟨by rfl, ?y5004⟩ hHeld ?_
  case y5004 => (intro wq hSw; (try simp only [Two, Kn, Facts, CellsAt] at hSw); go_simp; try with_reducible rfl)
  try simp only [Act.put, a7, b7, c7]
  refine w8 4 ?_ (ga7 rfl) (by kernel_rfl) (fun _ _ _ h => h) ⟨by rfl, ?y5005⟩ hHeld ?_
  case y5005 => (intro wq hSw; (try simp only [Two, Kn, Facts, CellsAt] at hSw); go_simp; try with_reducible rfl)
  try simp only [Act.put, a7, b7, c7]
  refine wpAnyH_ready (rs := [3, 9]) (by kernel_rfl) (by simp) ?rdy5006
  refine (AllReadyH.cons (ga7 rfl) (fun K hK => ?stp5006_3) (AllReadyH.cons (ga7 rfl) (fun K hK => ?stp5006_9) AllReadyH.nil))
  case stp5006_3 =>
   go_simp
   go_wp2_with fail
   (refine (CW.out _).mono ?_; rintro e w4 ⟨rfl, hb4⟩; have s4 : w0.heap.size ≤ w4.heap.size := (by have := hb4.size; first | exact this | (simp at this; omega)); first | (have U4 : Blk w4 w0.heap.size #[.bool false, .int .u64 0, .int .u64 0, .int .i64 0] 28 := Blk.via hb4 (Blk.new w0 #[.bool false, .int .u64 0, .int .u64 0, .int .i64 0] 28) rfl; obtain ⟨u0, u1, u2, u3, u4, u5, u6, u7, u8⟩ := U4.four) | skip)
   go_wp2_with fail
   refine hK.out _ _ ?hSn5007 (fun hHeld2 => ?rest5007)
   case hSn5007 => (first | with_reducible exact R0.drew | with_reducible exact (R0.alloc _).drew | with_reducible exact hHeld.below hb4 | with_reducible exact hHeld.below hb5 | with_reducible exact hHeld.alloc _ | with_reducible exact K5.alloc _ | with_reducible exact hHeld.far4 (by simp only [Off]; repeat' (first | exact trivial | refine And.intro ?_ ?_ | omega)) (by omega) _ _ _ _ | with_reducible exact K5.far4 (by simp only [Off]; repeat' (first | exact trivial | refine And.intro ?_ ?_ | omega)) (by omega) _ _ _ _ | with_reducible exact (K5.alloc _).far4 (by simp only [Off]; repeat' (first | exact trivial | refine And.intro ?_ ?_ | omega)) (by omega) _ _ _ _)
   clear hK K hHeld
   have hHeld := hHeld2
   clear hHeld2
   try simp only [Act.put, a7, b7, c7]
   refine wpAnyH_ready (rs := [5, 9]) (by kernel_rfl) (by simp) ?rdy5008
   refine (AllReadyH.cons (ga7 rfl) (fun K hK => ?stp5008_5) (AllReadyH.cons (ga7 rfl) (fun K hK => ?stp5008_9) AllReadyH.nil))
   case stp5008_5 =>
    go_simp
    go_wp2_with fail
    (refine (BK.out _).mono ?_; rintro e w5 ⟨rfl, hb5⟩; have K5 := hHeld.below hb5; have s5 : w4.heap.size ≤ w5.heap.size := (by have := hb5.size; first | exact this | (simp at this; omega)); first | (have U5 := U4.below hb5; obtain ⟨a0, a1, a2, a3, a4, a5, a6, a7, a8⟩ := U5.four) | (have U5 : Blk w5 w4.heap.size #[.bool false, .int .u64 0, .int .u64 0, .int .i64 0] 28 := Blk.via hb5 (Blk.new w4 #[.bool false, .int .u64 0, .int .u64 0, .int .i64 0] 28) rfl; obtain ⟨p0, p1, p2, p3, p4, p5, p6, p7, p8⟩ := U5.four) | skip)
    go_wp2_with fail
    refine hK.out _ _ ?hSn5009 (fun hHeld2 => ?rest5009)
    case hSn5009 => (first | with_reducible exact R0.drew | with_reducible exact (R0.alloc _).drew | with_reducible exact hHeld.below hb4 | with_reducible exact hHeld.below hb5 | with_reducible exact hHeld.alloc _ | with_reducible exact K5.alloc _ | with_reducible exact hHeld.far4 (by simp only [Off]; repeat' (first | exact trivial | refine And.intro ?_ ?_ | omega)) (by omega) _ _ _ _ | with_reducible exact K5.far4 (by simp only [Off]; repeat' (first | exact trivial | refine And.intro ?_ ?_ | omega)) (by omega) _ _ _ _ | with_reducible exact (K5.alloc _).far4 (by simp only [Off]; repeat' (first | exact trivial | refine And.intro ?_ ?_ | omega)) (by omega) _ _ _ _)
    clear hK K hHeld
    have hHeld := hHeld2
    clear hHeld2
    try simp only [Act.put, a7, b7, c7]
    refine w8 6 ?_ (ga7 rfl) (by kernel_rfl) (fun _ _ _ h => h) ⟨by rfl, ?y5010⟩ hHeld ?_
    case y5010 => (intro wq hSw; (try simp only [Two, Kn, Facts, CellsAt] at hSw); go_simp; try with_reducible rfl)
    try simp only [Act.put, a7, b7, c7]
    refine w8 7 ?_ (ga7 rfl) (by kernel_rfl) (fun _ _ _ h => h) ⟨by rfl, ?y5011⟩ hHeld ?_
    case y5011 => (intro wq hSw; (try simp only [Two, Kn, Facts, CellsAt] at hSw); go_simp; try with_reducible rfl)
    try simp only [Act.put, a7, b7, c7]
    refine w8 8 ?_ (ga7 rfl) (by kernel_rfl) (fun _ _ _ h => h) ⟨by rfl, ?y5012⟩ hHeld ?_
    case y5012 => (intro wq hSw; (try simp only [Two, Kn, Facts, CellsAt] at hSw); go_simp; try with_reducible rfl)
    try simp only [Act.put, a7, b7, c7]
    refine wpAnyH_ready (rs := [9]) (by kernel_rfl) (by simp) ?rdy5013
    refine (AllReadyH.cons (ga7 rfl) (fun K hK => ?stp5013_9) AllReadyH.nil)
    case stp5013_9 =>
     go_simp
     go_wp2_with fail
     refine hK.out _ _ ?hSn5014 (fun hHeld2 => ?rest5014)
     case hSn5014 => (first | with_reducible exact R0.drew | with_reducible exact (R0.alloc _).drew | with_reducible exact hHeld.below hb4 | with_reducible exact hHeld.below hb5 | with_reducible exact hHeld.alloc _ | with_reducible exact K5.alloc _ | with_reducible exact hHeld.far4 (by simp only [Off]; repeat' (first | exact trivial | refine And.intro ?_ ?_ | omega)) (by omega) _ _ _ _ | with_reducible exact K5.far4 (by simp only [Off]; repeat' (first | exact trivial | refine And.intro ?_ ?_ | omega)) (by omega) _ _ _ _ | with_reducible exact (K5.alloc _).far4 (by simp only [Off]; repeat' (first | exact trivial | refine And.intro ?_ ?_ | omega)) (by omega) _ _ _ _)
     clear hK K hHeld
     have hHeld := hHeld2
     clear hHeld2
     try simp only [Act.put, a7, b7, c7]
     refine wpAnyH_ready (rs := [10]) (by kernel_rfl) (by simp) ?rdy5015
     refine (AllReadyH.cons (ga7 rfl) (fun K hK => ?stp5015_10) AllReadyH.nil)
     case stp5015_10 =>
      go_simp
      go_wp2_with fail
      refine hK.out _ _ ?hSn5016 (fun hHeld2 => ?rest5016)
      case hSn5016 => (first | with_reducible exact R0.drew | with_reducible exact (R0.alloc _).drew | with_reducible exact hHeld.below hb4 | with_reducible exact hHeld.below hb5 | with_reducible exact hHeld.alloc _ | with_reducible exact K5.alloc _ | with_reducible exact hHeld.far4 (by simp only [Off]; repeat' (first | exact trivial | refine And.intro ?_ ?_ | omega)) (by omega) _ _ _ _ | with_reducible exact K5.far4 (by simp only [Off]; repeat' (first | exact trivial | refine And.intro ?_ ?_ | omega)) (by omega) _ _ _ _ | with_reducible exact (K5.alloc _).far4 (by simp only [Off]; repeat' (first | exact trivial | refine And.intro ?_ ?_ | omega)) (by omega) _ _ _ _)
      clear hK K hHeld
      have hHeld := hHeld2
      clear hHeld2
      try simp only [Act.put, a7, b7, c7]
      refine w8 11 ?_ (ga7 rfl) (by kernel_rfl) (fun _ _ _ h => h) ⟨by rfl, ?y5017⟩ hHeld ?_
      case y5017 => (intro wq hSw; (try simp only [Two, Kn, Facts, CellsAt] at hSw); go_simp; try with_reducible rfl)
      try simp only [Act.put, a7, b7, c7]
      refine wpAnyH_done (by kernel_rfl) ?_ _
      go_wp2_with fail
      go_meet
      case rel => exact ⟨_, rfl, rfl, (by omega), (by repeat (first | with_reducible exact Blk.new _ _ _ | with_reducible exact U5 | with_reducible refine Blk.put4 (x := .bool false) (y := .int .u64 0) (z := .int .u64 0) (q := .int .i64 0) ?_ _ _ _ _)), hHeld⟩
   case stp5008_9 =>
    go_simp
    go_wp2_with fail
    refine hK.out _ _ ?hSn5018 (fun hHeld2 => ?rest5018)
    case hSn5018 => (first | with_reducible exact R0.drew | with_reducible exact (R0.alloc _).drew | with_reducible exact hHeld.below hb4 | with_reducible exact hHeld.below hb5 | with_reducible exact hHeld.alloc _ | with_reducible exact K5.alloc _ | with_reducible exact hHeld.far4 (by simp only [Off]; repeat' (first | exact trivial | refine And.intro ?_ ?_ | omega)) (by omega) _ _ _ _ | with_reducible exact K5.far4 (by simp only [Off]; repeat' (first | exact trivial | refine And.intro ?_ ?_ | omega)) (by omega) _ _ _ _ | with_reducible exact (K5.alloc _).far4 (by simp only [Off]; repeat' (first | exact trivial | refine And.intro ?_ ?_ | omega)) (by omega) _ _ _ _)
    clear hK K hHeld
    have hHeld := hHeld2
    clear hHeld2
    try simp only [Act.put, a7, b7, c7]
    refine wpAnyH_ready (rs := [5]) (by kernel_rfl) (by simp) ?rdy5019
    refine (AllReadyH.cons (ga7 rfl) (fun K hK => ?stp5019_5) AllReadyH.nil)
    case stp5019_5 =>
     go_simp
     go_wp2_with fail
     (refine (BK.out _).mono ?_; rintro e w5 ⟨rfl, hb5⟩; have K5 := hHeld.below hb5; have s5 : w4.heap.size ≤ w5.heap.size := (by have := hb5.size; first | exact this | (simp at this; omega)); first | (have U5 := U4.below hb5; obtain ⟨a0, a1, a2, a3, a4, a5, a6, a7, a8⟩ := U5.four) | (have U5 : Blk w5 w4.heap.size #[.bool false, .int .u64 0, .int .u64 0, .int .i64 0] 28 := Blk.via hb5 (Blk.new w4 #[.bool false, .int .u64 0, .int .u64 0, .int .i64 0] 28) rfl; obtain ⟨p0, p1, p2, p3, p4, p5, p6, p7, p8⟩ := U5.four) | skip)
     go_wp2_with fail
     refine hK.out _ _ ?hSn5020 (fun hHeld2 => ?rest5020)
     case hSn5020 => (first | with_reducible exact R0.drew | with_reducible exact (R0.alloc _).drew | with_reducible exact hHeld.below hb4 | with_reducible exact hHeld.below hb5 | with_reducible exact hHeld.alloc _ | with_reducible exact K5.alloc _ | with_reducible exact hHeld.far4 (by simp only [Off]; repeat' (first | exact trivial | refine And.intro ?_ ?_ | omega)) (by omega) _ _ _ _ | with_reducible exact K5.far4 (by simp only [Off]; repeat' (first | exact trivial | refine And.intro ?_ ?_ | omega)) (by omega) _ _ _ _ | with_reducible exact (K5.alloc _).far4 (by simp only [Off]; repeat' (first | exact trivial | refine And.intro ?_ ?_ | omega)) (by omega) _ _ _ _)
     clear hK K hHeld
     have hHeld := hHeld2
     clear hHeld2
     try simp only [Act.put, a7, b7, c7]
     refine w8 6 ?_ (ga7 rfl) (by kernel_rfl) (fun _ _ _ h => h) ⟨by rfl, ?y5021⟩ hHeld ?_
     case y5021 => (intro wq hSw; (try simp only [Two, Kn, Facts, CellsAt] at hSw); go_simp; try with_reducible rfl)
     try simp only [Act.put, a7, b7, c7]
     refine w8 7 ?_ (ga7 rfl) (by kernel_rfl) (fun _ _ _ h => h) ⟨by rfl, ?y5022⟩ hHeld ?_
     case y5022 => (intro wq hSw; (try simp only [Two, Kn, Facts, CellsAt] at hSw); go_simp; try with_reducible rfl)
     try simp only [Act.put, a7, b7, c7]
     refine w8 8 ?_ (ga7 rfl) (by kernel_rfl) (fun _ _ _ h => h) ⟨by rfl, ?y5023⟩ hHeld ?_
     case y5023 => (intro wq hSw; (try simp only [Two, Kn, Facts, CellsAt] at hSw); go_simp; try with_reducible rfl)
     try simp only [Act.put, a7, b7, c7]
     refine wpAnyH_ready (rs := [10]) (by kernel_rfl) (by simp) ?rdy5024
     refine (AllReadyH.cons (ga7 rfl) (fun K hK => ?stp5024_10) AllReadyH.nil)
     case stp5024_10 =>
      go_simp
      go_wp2_with fail
      refine hK.out _ _ ?hSn5025 (fun hHeld2 => ?rest5025)
      case hSn5025 => (first | with_reducible exact R0.drew | with_reducible exact (R0.alloc _).drew | with_reducible exact hHeld.below hb4 | with_reducible exact hHeld.below hb5 | with_reducible exact hHeld.alloc _ | with_reducible exact K5.alloc _ | with_reducible exact hHeld.far4 (by simp only [Off]; repeat' (first | exact trivial | refine And.intro ?_ ?_ | omega)) (by omega) _ _ _ _ | with_reducible exact K5.far4 (by simp only [Off]; repeat' (first | exact trivial | refine And.intro ?_ ?_ | omega)) (by omega) _ _ _ _ | with_reducible exact (K5.alloc _).far4 (by simp only [Off]; repeat' (first | exact trivial | refine And.intro ?_ ?_ | omega)) (by omega) _ _ _ _)
      clear hK K hHeld
      have hHeld := hHeld2
      clear hHeld2
      try simp only [Act.put, a7, b7, c7]
      refine w8 11 ?_ (ga7 rfl) (by kernel_rfl) (fun _ _ _ h => h) ⟨by rfl, ?y5026⟩ hHeld ?_
      case y5026 => (intro wq hSw; (try simp only [Two, Kn, Facts, CellsAt] at hSw); go_simp; try with_reducible rfl)
      try simp only [Act.put, a7, b7, c7]
      refine wpAnyH_done (by kernel_rfl) ?_ _
      go_wp2_with fail
      go_meet
      case rel => exact ⟨_, rfl, rfl, (by omega), (by repeat (first | with_reducible exact Blk.new _ _ _ | with_reducible exact U5 | with_reducible refine Blk.put4 (x := .bool false) (y := .int .u64 0) (z := .int .u64 0) (q := .int .i64 0) ?_ _ _ _ _)), hHeld⟩
  case stp5006_9 =>
   go_simp
   go_wp2_with fail
   refine hK.out _ _ ?hSn5027 (fun hHeld2 => ?rest5027)
   case hSn5027 => (first | with_reducible exact R0.drew | with_reducible exact (R0.alloc _).drew | with_reducible exact hHeld.below hb4 | with_reducible exact hHeld.below hb5 | with_reducible exact hHeld.alloc _ | with_reducible exact K5.alloc _ | with_reducible exact hHeld.far4 (by simp only [Off]; repeat' (first | exact trivial | refine And.intro ?_ ?_ | omega)) (by omega) _ _ _ _ | with_reducible exact K5.far4 (by simp only [Off]; repeat' (first | exact trivial | refine And.intro ?_ ?_ | omega)) (by omega) _ _ _ _ | with_reducible exact (K5.alloc _).far4 (by simp only [Off]; repeat' (first | exact trivial | refine And.intro ?_ ?_ | omega)) (by omega) _ _ _ _)
   clear hK K hHeld
   have hHeld := hHeld2
   clear hHeld2
   try simp only [Act.put, a7, b7, c7]
   refine wpAnyH_ready (rs := [3]) (by kernel_rfl) (by simp) ?rdy5028
   refine (AllReadyH.cons (ga7 rfl) (fun K hK => ?stp5028_3) AllReadyH.nil)
   case stp5028_3 =>
    go_simp
    go_wp2_with fail
    (refine (CW.out _).mono ?_; rintro e w4 ⟨rfl, hb4⟩; have s4 : w0.heap.size ≤ w4.heap.size := (by have := hb4.size; first | exact this | (simp at this; omega)); first | (have U4 : Blk w4 w0.heap.size #[.bool false, .int .u64 0, .int .u64 0, .int .i64 0] 28 := Blk.via hb4 (Blk.new w0 #[.bool false, .int .u64 0, .int .u64 0, .int .i64 0] 28) rfl; obtain ⟨u0, u1, u2, u3, u4, u5, u6, u7, u8⟩ := U4.four) | skip)
    go_wp2_with fail
    refine hK.out _ _ ?hSn5029 (fun hHeld2 => ?rest5029)
    case hSn5029 => (first | with_reducible exact R0.drew | with_reducible exact (R0.alloc _).drew | with_reducible exact hHeld.below hb4 | with_reducible exact hHeld.below hb5 | with_reducible exact hHeld.alloc _ | with_reducible exact K5.alloc _ | with_reducible exact hHeld.far4 (by simp only [Off]; repeat' (first | exact trivial | refine And.intro ?_ ?_ | omega)) (by omega) _ _ _ _ | with_reducible exact K5.far4 (by simp only [Off]; repeat' (first | exact trivial | refine And.intro ?_ ?_ | omega)) (by omega) _ _ _ _ | with_reducible exact (K5.alloc _).far4 (by simp only [Off]; repeat' (first | exact trivial | refine And.intro ?_ ?_ | omega)) (by omega) _ _ _ _)
    clear hK K hHeld
    have hHeld := hHeld2
    clear hHeld2
    try simp only [Act.put, a7, b7, c7]
    refine wpAnyH_ready (rs := [5]) (by kernel_rfl) (by simp) ?rdy5030
    refine (AllReadyH.cons (ga7 rfl) (fun K hK => ?stp5030_5) AllReadyH.nil)
    case stp5030_5 =>
     go_simp
     go_wp2_with fail
     (refine (BK.out _).mono ?_; rintro e w5 ⟨rfl, hb5⟩; have K5 := hHeld.below hb5; have s5 : w4.heap.size ≤ w5.heap.size := (by have := hb5.size; first | exact this | (simp at this; omega)); first | (have U5 := U4.below hb5; obtain ⟨a0, a1, a2, a3, a4, a5, a6, a7, a8⟩ := U5.four) | (have U5 : Blk w5 w4.heap.size #[.bool false, .int .u64 0, .int .u64 0, .int .i64 0] 28 := Blk.via hb5 (Blk.new w4 #[.bool false, .int .u64 0, .int .u64 0, .int .i64 0] 28) rfl; obtain ⟨p0, p1, p2, p3, p4, p5, p6, p7, p8⟩ := U5.four) | skip)
     go_wp2_with fail
     refine hK.out _ _ ?hSn5031 (fun hHeld2 => ?rest5031)
     case hSn5031 => (first | with_reducible exact R0.drew | with_reducible exact (R0.alloc _).drew | with_reducible exact hHeld.below hb4 | with_reducible exact hHeld.below hb5 | with_reducible exact hHeld.alloc _ | with_reducible exact K5.alloc _ | with_reducible exact hHeld.far4 (by simp only [Off]; repeat' (first | exact trivial | refine And.intro ?_ ?_ | omega)) (by omega) _ _ _ _ | with_reducible exact K5.far4 (by simp only [Off]; repeat' (first | exact trivial | refine And.intro ?_ ?_ | omega)) (by omega) _ _ _ _ | with_reducible exact (K5.alloc _).far4 (by simp only [Off]; repeat' (first | exact trivial | refine And.intro ?_ ?_ | omega)) (by omega) _ _ _ _)
     clear hK K hHeld
     have hHeld := hHeld2
     clear hHeld2
     try simp only [Act.put, a7, b7, c7]
     refine w8 6 ?_ (ga7 rfl) (by kernel_rfl) (fun _ _ _ h => h) ⟨by rfl, ?y5032⟩ hHeld ?_
     case y5032 => (intro wq hSw; (try simp only [Two, Kn, Facts, CellsAt] at hSw); go_simp; try with_reducible rfl)
     try simp only [Act.put, a7, b7, c7]
     refine w8 7 ?_ (ga7 rfl) (by kernel_rfl) (fun _ _ _ h => h) ⟨by rfl, ?y5033⟩ hHeld ?_
     case y5033 => (intro wq hSw; (try simp only [Two, Kn, Facts, CellsAt] at hSw); go_simp; try with_reducible rfl)
     try simp only [Act.put, a7, b7, c7]
     refine w8 8 ?_ (ga7 rfl) (by kernel_rfl) (fun _ _ _ h => h) ⟨by rfl, ?y5034⟩ hHeld ?_
     case y5034 => (intro wq hSw; (try simp only [Two, Kn, Facts, CellsAt] at hSw); go_simp; try with_reducible rfl)
     try simp only [Act.put, a7, b7, c7]
     refine wpAnyH_ready (rs := [10]) (by kernel_rfl) (by simp) ?rdy5035
     refine (AllReadyH.cons (ga7 rfl) (fun K hK => ?stp5035_10) AllReadyH.nil)
     case stp5035_10 =>
      go_simp
      go_wp2_with fail
      refine hK.out _ _ ?hSn5036 (fun hHeld2 => ?rest5036)
      case hSn5036 => (first | with_reducible exact R0.drew | with_reducible exact (R0.alloc _).drew | with_reducible exact hHeld.below hb4 | with_reducible exact hHeld.below hb5 | with_reducible exact hHeld.alloc _ | with_reducible exact K5.alloc _ | with_reducible exact hHeld.far4 (by simp only [Off]; repeat' (first | exact trivial | refine And.intro ?_ ?_ | omega)) (by omega) _ _ _ _ | with_reducible exact K5.far4 (by simp only [Off]; repeat' (first | exact trivial | refine And.intro ?_ ?_ | omega)) (by omega) _ _ _ _ | with_reducible exact (K5.alloc _).far4 (by simp only [Off]; repeat' (first | exact trivial | refine And.intro ?_ ?_ | omega)) (by omega) _ _ _ _)
      clear hK K hHeld
      have hHeld := hHeld2
      clear hHeld2
      try simp only [Act.put, a7, b7, c7]
      refine w8 11 ?_ (ga7 rfl) (by kernel_rfl) (fun _ _ _ h => h) ⟨by rfl, ?y5037⟩ hHeld ?_
      case y5037 => (intro wq hSw; (try simp only [Two, Kn, Facts, CellsAt] at hSw); go_simp; try with_reducible rfl)
      try simp only [Act.put, a7, b7, c7]
      refine wpAnyH_done (by kernel_rfl) ?_ _
      go_wp2_with fail
      go_meet
      case rel => exact ⟨_, rfl, rfl, (by omega), (by repeat (first | with_reducible exact Blk.new _ _ _ | with_reducible exact U5 | with_reducible refine Blk.put4 (x := .bool false) (y := .int .u64 0) (z := .int .u64 0) (q := .int .i64 0) ?_ _ _ _ _)), hHeld⟩
 case rest =>
  obtain ⟨X, rfl, rfl, hX, N, R⟩ := hcut
  obtain ⟨x0, x1, x2, x3, x4, x5, x6, x7, x8⟩ := N.four
  obtain ⟨r0, r1, r2, r3, r4, r5, r6⟩ := R.2.1.1.three
  have B := R.bel
  have ne1 : ¬ X = w.heap.size + 1 + 1 := by omega
  clear R0 R N LT hs0 CW BK
  go_wp2
  refine bodyPost_ret (v := .tuple #[av rv rh rl, .int .i64 ec]) (by simp [results, Tryz.results107, go_sem, World.cell?_setCell_same', World.cell?_setCell_other, *]) rfl ⟨rfl, by repeat (first | with_reducible exact Below.refl _ _ | with_reducible refine Below.drew ?_ | with_reducible refine Below.alloc ?_ (by first | omega | (simp <;> omega)) _ | with_reducible refine Below.setCell ?_ (by first | omega | (simp <;> omega)) _ | with_reducible refine Below.trans ?_ (Below.mono B (by first | omega | (simp <;> omega))))⟩


theorem pow_128 {j : Nat} (h : j < 128) : 2 ^ j + 2 ^ j ≤ 340282366920938463463374607431768211456 := by
 have := Nat.pow_le_pow_right (n := 2) (by decide) (show j + 1 ≤ 128 by omega)
 rw [show (2 : Nat) ^ 128 = 340282366920938463463374607431768211456 by decide, Nat.pow_succ] at this
 omega

set_option maxRecDepth 100000 in
set_option maxHeartbeats 800000 in
theorem count_128 (w : World) : Calls Tryz.prog 132 #[.int .i64 128] w fun e w' => e = .returned (.tuple #[nv 0 0, .bool false]) ∧ Below w.heap.size w w' := by
 go_enter Tryz.func132, Tryz.ntmps132
 go_wp2
 refine bodyPost_ret (v := .tuple #[nv 0 0, .bool false]) (by simp [results, Tryz.results132, go_sem, World.cell?_setCell_same', World.cell?_setCell_other]) rfl ⟨rfl, by repeat (first | with_reducible exact Below.refl _ _ | with_reducible refine Below.drew ?_ | with_reducible refine Below.alloc ?_ (by first | omega | (simp <;> omega)) _ | with_reducible refine Below.setCell ?_ (by first | omega | (simp <;> omega)) _)⟩

/-- What Count keeps. -/
def CT (w : World) (h l : Int) (wr : World) : Prop :=
 Blk wr w.heap.size #[.int .u64 0, .int .u64 0] 24 ∧ Blk wr (w.heap.size + 1) #[.int .u64 h, .int .u64 l] 24 ∧ Below w.heap.size w wr

theorem CT.below {w W w1 : World} {h l : Int} (s : CT w h l W) (hb : Below W.heap.size W w1) : CT w h l w1 := ⟨s.1.below hb, s.2.1.below hb, s.2.2.trans (hb.mono s.2.2.size)⟩

theorem CT.put {w W : World} {h l : Int} (s : CT w h l W) (h' l' : Int) : CT w h' l' ((W.setCell ⟨w.heap.size + 1, 0, none⟩ (.int .u64 h')).setCell ⟨w.heap.size + 1, 1, none⟩ (.int .u64 l')) :=
 ⟨s.1.far2 (by omega) _ _, s.2.1.put2 _ _, (s.2.2.setCell (by show _ ≤ w.heap.size + 1; omega) _).setCell (by show _ ≤ w.heap.size + 1; omega) _⟩

set_option maxRecDepth 100000 in
set_option maxHeartbeats 1600000 in
theorem count_lt {k rh rl : Int} {K : Nat} (hk : k = (K : Int)) (hK : K < 128) (hr : IsNum rh rl (2 ^ K)) (w : World) :
  Calls Tryz.prog 132 #[.int .i64 k] w fun e w' => e = .returned (.tuple #[nv rh rl, .bool true]) ∧ Below w.heap.size w w' := by
 have k1 : ¬ k = 128 := by omega
 have k1' : (k == 128) = false := by simpa using k1
 have k2 : k < 128 := by omega
 have k0 : 0 ≤ k := by omega
 have HK : Hid (k = (K : Int) ∧ K < 128 ∧ IsNum rh rl (2 ^ K)) := ⟨hk, hK, hr⟩
 have R0 : CT w 0 1 ((w.alloc (.cells #[.int .u64 0, .int .u64 0] 24)).alloc (.cells #[.int .u64 0, .int .u64 1] 24)) := ⟨(Blk.new _ _ _).alloc _, by simpa using Blk.new (w.alloc (.cells #[.int .u64 0, .int .u64 0] 24)) #[.int .u64 0, .int .u64 1] 24, by repeat (first | with_reducible exact Below.refl _ _ | with_reducible refine Below.drew ?_ | with_reducible refine Below.alloc ?_ (by first | omega | (simp <;> omega)) _ | with_reducible refine Below.setCell ?_ (by first | omega | (simp <;> omega)) _)⟩
 have one : IsNum 0 1 (2 ^ 0) := ⟨by omega, by omega, by omega, by omega, rfl⟩
 clear hk hK hr
 go_enter Tryz.func132, Tryz.ntmps132
 go_wp2_with fail
 go_loopw [5] (fun i wr => ∃ (j : Nat) (J h l : Int), i = .int .i64 J ∧ Hid (J = (j : Int) ∧ IsNum h l (2 ^ j)) ∧ 0 ≤ J ∧ J ≤ k ∧ CT w h l wr) (fun i _ => (k - intOf i).toNat)
 case atStart => exact ⟨0, 0, 0, 1, rfl, ⟨by simp, one⟩, by omega, k0, R0⟩
 case round =>
  clear R0 one
  obtain ⟨j, J, h, l, rfl, HJ, J0, J1, R⟩ := hrel
  obtain ⟨n0, n1, n2, n3, n4⟩ := R.2.1.two
  by_cases hlt : J < k
  ·have jl : j < 128 := by have := HJ.out.1; omega
   have jn : j + 1 < 128 := by have := HJ.out.1; have := HK.out; omega
   have AD : Hid (∀ w', Calls Tryz.prog 163 #[nv h l, nv h l] w' fun e w1 => ∃ h' l' t, e = .returned (.tuple #[nv h' l', .bool t]) ∧ Hid (IsNum h' l' (2 ^ (j + 1))) ∧ Below w'.heap.size w' w1) := fun w' => by
    refine (radd_c HJ.out.2 HJ.out.2 w').mono ?_
    rintro e w1 ⟨h', l', t, rfl, hn, _, hb⟩
    refine ⟨h', l', t, rfl, hn.cast ?_, hb⟩
    have p := pow_128 jl
    have q := pow_128 jn
    have e2 : 2 ^ (j + 1) = 2 ^ j + 2 ^ j := by rw [Nat.pow_succ]; omega
    have p2 := pow_pos2 (j + 1)
    rw [Nat.mod_eq_of_lt (by omega), e2]
   clear jl jn
   go_wp2_with fail
   refine (AD.out _).mono ?_
   rintro e w2 ⟨h', l', t, rfl, hn, hb2⟩
   have R2 := R.below hb2
   have R3 : Hid (CT w h' l' _) := R2.put h' l'
   clear n0 n1 n2 n3 n4
   obtain ⟨n0, n1, n2, n3, n4⟩ := R2.2.1.two
   clear AD hb2 R R2
   go_wp2
   go_roundw
   case measure => simp [intOf]; omega
   case rel => exact ⟨j + 1, J + 1, h', l', rfl, ⟨by have := HJ.out.1; omega, hn.out⟩, by omega, by omega, R3.out⟩
  ·obtain rfl : J = k := by omega
   obtain ⟨e1, _, e3⟩ := HK.out
   obtain ⟨e4, e5⟩ := HJ.out
   obtain rfl : j = K := by omega
   obtain ⟨rfl, rfl⟩ := e5.uniq e3
   obtain ⟨r0, r1, r2, r3, r4⟩ := R.1.two
   have B := R.2.2
   clear HK HJ e1 e3 e4 e5 R
   go_wp2
   refine bodyPost_ret (v := .tuple #[nv h l, .bool true]) (by simp [results, Tryz.results132, go_sem, World.cell?_setCell_same', World.cell?_setCell_other, *]) rfl ⟨rfl, by repeat (first | with_reducible exact Below.refl _ _ | with_reducible refine Below.drew ?_ | with_reducible refine Below.alloc ?_ (by first | omega | (simp <;> omega)) _ | with_reducible refine Below.setCell ?_ (by first | omega | (simp <;> omega)) _ | with_reducible refine Below.trans ?_ (Below.mono B (by first | omega | (simp <;> omega))))⟩

/-- Two to so many bits, or none. -/
def CountIs (K : Nat) (rh rl : Int) (t : Bool) : Prop := (K < 128 ∧ t = true ∧ IsNum rh rl (2 ^ K)) ∨ (K = 128 ∧ t = false ∧ rh = 0 ∧ rl = 0)

theorem countIs_ex {K : Nat} (h : K ≤ 128) : ∃ rh rl t, CountIs K rh rl t := by
 by_cases c : K < 128
 ·have p := pow_128 c
  have q := pow_pos2 K
  obtain ⟨rh, rl, hr⟩ := IsNum.ex (n := 2 ^ K) (by omega)
  exact ⟨rh, rl, true, Or.inl ⟨c, rfl, hr⟩⟩
 ·exact ⟨0, 0, false, Or.inr ⟨by omega, rfl, rfl, rfl⟩⟩

theorem count_is {k rh rl : Int} {K : Nat} {t : Bool} (hk : k = (K : Int)) (hc : CountIs K rh rl t) (w : World) :
  Calls Tryz.prog 132 #[.int .i64 k] w fun e w' => e = .returned (.tuple #[nv rh rl, .bool t]) ∧ Below w.heap.size w w' := by
 rcases hc with ⟨h1, rfl, h2⟩ | ⟨rfl, rfl, rfl, rfl⟩
 ·exact count_lt hk h1 h2 w
 ·subst hk
  exact count_128 w

theorem CountIs.mod {K : Nat} {rh rl : Int} {t : Bool} (h : CountIs K rh rl t) : IsNum rh rl (1 * 2 ^ K % 340282366920938463463374607431768211456) := by
 rcases h with ⟨h1, _, h2⟩ | ⟨rfl, _, rfl, rfl⟩
 ·have p := pow_128 h1
  have q := pow_pos2 K
  exact h2.cast (by rw [Nat.one_mul, Nat.mod_eq_of_lt (by omega)])
 ·exact ⟨by omega, by omega, by omega, by omega, by decide +kernel⟩

theorem CountIs.nought {K : Nat} {rh rl : Int} {t : Bool} (h : CountIs K rh rl t) : (t = true ∧ (¬ rh = 0 ∨ (rh = 0 ∧ ¬ rl = 0))) ∨ (t = false ∧ rh = 0 ∧ rl = 0) := by
 rcases h with ⟨h1, h2, h3⟩ | ⟨_, h2, h3, h4⟩
 ·refine Or.inl ⟨h2, ?_⟩
  by_cases c : rh = 0
  ·refine Or.inr ⟨c, fun d => ?_⟩
   have := h3.zero_iff.2 ⟨c, d⟩
   have q := pow_pos2 K
   omega
  ·exact Or.inl c
 ·exact Or.inr ⟨h2, h3, h4⟩

theorem blks_start (w : World) (v : Bool) (h l b : Int) : Kn w [(w.heap.size + 1, [.int .u64 0, .int .u64 0], 24), (w.heap.size, [.bool v, .int .u64 h, .int .u64 l, .int .i64 b], 28)] ((w.alloc (.cells #[.bool v, .int .u64 h, .int .u64 l, .int .i64 b] 28)).alloc (.cells #[.int .u64 0, .int .u64 0] 24)) :=
 ((Kn.nil w).push rfl).push (by simp)

set_option maxRecDepth 100000 in
set_option maxHeartbeats 800000 in
theorem blks_no {v : Bool} {h l b k : Int} {n : Nat} (hp : IsNum h l n) (hc : cutB v n b k = false) (w : World) :
  Calls Tryz.prog 129 #[pv v h l b, .int .i64 k] w fun e w' => e = .returned (.tuple #[nv 0 0, .bool false, .int .i64 1]) ∧ Below w.heap.size w w' := by
 have C1 : Hid (∀ w', Calls Tryz.prog 161 #[pv v h l b, .int .i64 k] w' fun e w1 => e = .returned (.bool false) ∧ Below w'.heap.size w' w1) := fun w' => hc ▸ cuts_c hp w'
 have K := blks_start w v h l b
 clear hp hc
 go_enter Tryz.func129, Tryz.ntmps129
 go_wp2_with fail
 refine (C1.out _).mono ?_
 rintro e w1 ⟨rfl, hb⟩
 replace K := K.below hb
 obtain ⟨r0, r1, r2, r3, r4⟩ := K.2.1.1.two
 have B := K.bel
 clear hb C1 K
 go_wp2
 refine bodyPost_ret (v := .tuple #[nv 0 0, .bool false, .int .i64 1]) (by simp [results, Tryz.results129, go_sem, World.cell?_setCell_same', World.cell?_setCell_other, *]) rfl ⟨rfl, by repeat (first | with_reducible exact Below.refl _ _ | with_reducible refine Below.drew ?_ | with_reducible refine Below.alloc ?_ (by first | omega | (simp <;> omega)) _ | with_reducible refine Below.setCell ?_ (by first | omega | (simp <;> omega)) _ | with_reducible refine Below.trans ?_ (Below.mono B (by first | omega | (simp <;> omega))))⟩

set_option maxRecDepth 100000 in
set_option maxHeartbeats 1600000 in
theorem blks_ok_t {v : Bool} {h l b k rh rl : Int} {n : Nat} (hp : IsNum h l n) (hc : cutB v n b k = true) (hr : IsNum rh rl (1 * 2 ^ (k - b).toNat % 340282366920938463463374607431768211456)) (nz : ¬ rh = 0 ∨ (rh = 0 ∧ ¬ rl = 0)) (w : World) :
  Calls Tryz.prog 129 #[pv v h l b, .int .i64 k] w fun e w' => e = .returned (.tuple #[nv rh rl, .bool true, .int .i64 0]) ∧ Below w.heap.size w w' := by
 have C1 : Hid (∀ w', Calls Tryz.prog 161 #[pv v h l b, .int .i64 k] w' fun e w1 => e = .returned (.bool true) ∧ Below w'.heap.size w' w1) := fun w' => hc ▸ cuts_c hp w'
 obtain ⟨_, b0, b1, b2, _⟩ := cutB_parts hc
 have hW2 := width_le v
 have one : IsNum 0 1 1 := ⟨by omega, by omega, by omega, by omega, rfl⟩
 have O1 : Hid (∀ w', Calls Tryz.prog 34 #[.int .u64 1] w' fun e w1 => e = .returned (nv 0 1) ∧ Below w'.heap.size w' w1) := fun w' => of_w 1 w'
 have S1 : Hid (∀ w', Calls Tryz.prog 116 #[nv 0 1, .int .i64 (k - b)] w' fun e w1 => e = .returned (nv rh rl) ∧ Below w'.heap.size w' w1) := fun w' => shl_is one (by omega) hr w'
 have hw1 : IntKind.i64.wrap (k - b) = k - b := by simp [IntKind.wrap, IntKind.bits, IntKind.signed]; omega
 have NZ : Hid (¬ rh = 0 ∨ (rh = 0 ∧ ¬ rl = 0)) := nz
 have K := blks_start w v h l b
 clear hp hc hr b0 b1 b2 hW2 one nz
 go_enter Tryz.func129, Tryz.ntmps129
 go_wp2_with fail
 refine (C1.out _).mono ?_
 rintro e w0 ⟨rfl, hb⟩
 have R0 := K.below hb
 have LT := R0.lts
 simp only [Lts] at LT
 have hs0 := R0.bel.size
 clear hb C1 K
 go_upto_region 3 with fail
 go_cut [7] (fun p wc => ∃ X : Nat, p = .pointer (some ⟨X, 0, none⟩) ∧ w.heap.size + 1 < X ∧ Blk wc X #[.int .u64 rh, .int .u64 rl] 24 ∧ Kn w [(w.heap.size + 1, [.int .u64 0, .int .u64 0], 24), (w.heap.size, [.bool v, .int .u64 h, .int .u64 l, .int .i64 b], 28)] wc)
 case first =>
  refine wp_region_held_drew (S := (Kn w [(w.heap.size + 1, [.int .u64 0, .int .u64 0], 24), (w.heap.size, [.bool v, .int .u64 h, .int .u64 l, .int .i64 b], 28)])) (by kernel_rfl) ?hS5038 (fun hHeld => ?rest5038)
  case hS5038 => (first | with_reducible exact R0.drew | with_reducible exact (R0.alloc _).drew | with_reducible exact hHeld.below hb4 | with_reducible exact hHeld.below hb5 | with_reducible exact hHeld.alloc _ | with_reducible exact K5.alloc _ | with_reducible exact hHeld.far2 (by simp only [Off]; repeat' (first | exact trivial | refine And.intro ?_ ?_ | omega)) (by omega) _ _ | with_reducible exact K5.far2 (by simp only [Off]; repeat' (first | exact trivial | refine And.intro ?_ ?_ | omega)) (by omega) _ _ | with_reducible exact (K5.alloc _).far2 (by simp only [Off]; repeat' (first | exact trivial | refine And.intro ?_ ?_ | omega)) (by omega) _ _)
  refine w8 1 ?_ (ga7 rfl) (by kernel_rfl) (fun _ _ _ h => h) ⟨by rfl, ?y5039⟩ hHeld ?_
  case y5039 => (intro wq hSw; (try simp only [Two, Kn, Facts, CellsAt] at hSw); go_simp; try with_reducible rfl)
  try simp only [Act.put, a7, b7, c7]
  refine w8 2 ?_ (ga7 rfl) (by kernel_rfl) (fun _ _ _ h => h) ⟨by rfl, ?y5040⟩ hHeld ?_
  case y5040 => (intro wq hSw; (try simp only [Two, Kn, Facts, CellsAt] at hSw); go_simp; try with_reducible rfl)
  try simp only [Act.put, a7, b7, c7]
  refine w8 3 ?_ (ga7 rfl) (by kernel_rfl) (fun _ _ _ h => h) ⟨by rfl, ?y5041⟩ hHeld ?_
  case y5041 => (intro wq hSw; (try simp only [Two, Kn, Facts, CellsAt] at hSw); go_simp; try with_reducible rfl)
  try simp only [Act.put, a7, b7, c7]
  refine w8 4 ?_ (ga7 rfl) (by kernel_rfl) (fun _ _ _ h => h) ⟨by rfl, ?y5042⟩ hHeld ?_
  case y5042 => (intro wq hSw; (try simp only [Two, Kn, Facts, CellsAt] at hSw); go_simp; try with_reducible rfl)
  try simp only [Act.put, a7, b7, c7]
  refine wpAnyH_ready (rs := [0, 6]) (by kernel_rfl) (by simp) ?rdy5043
  refine (AllReadyH.cons (ga7 rfl) (fun K hK => ?stp5043_0) (AllReadyH.cons (ga7 rfl) (fun K hK => ?stp5043_6) AllReadyH.nil))
  case stp5043_0 =>
   go_simp
   go_wp2_with fail
   (refine (O1.out _).mono ?_; rintro e w4 ⟨rfl, hb4⟩; have s4 : w0.heap.size ≤ w4.heap.size := (by have := hb4.size; first | exact this | (simp at this; omega)); first | (have U4 : Blk w4 w0.heap.size #[.int .u64 0, .int .u64 0] 24 := Blk.via hb4 (Blk.new w0 #[.int .u64 0, .int .u64 0] 24) rfl; obtain ⟨u0, u1, u2, u3, u4⟩ := U4.two) | skip)
   go_wp2_with fail
   refine hK.out _ _ ?hSn5044 (fun hHeld2 => ?rest5044)
   case hSn5044 => (first | with_reducible exact R0.drew | with_reducible exact (R0.alloc _).drew | with_reducible exact hHeld.below hb4 | with_reducible exact hHeld.below hb5 | with_reducible exact hHeld.alloc _ | with_reducible exact K5.alloc _ | with_reducible exact hHeld.far2 (by simp only [Off]; repeat' (first | exact trivial | refine And.intro ?_ ?_ | omega)) (by omega) _ _ | with_reducible exact K5.far2 (by simp only [Off]; repeat' (first | exact trivial | refine And.intro ?_ ?_ | omega)) (by omega) _ _ | with_reducible exact (K5.alloc _).far2 (by simp only [Off]; repeat' (first | exact trivial | refine And.intro ?_ ?_ | omega)) (by omega) _ _)
   clear hK K hHeld
   have hHeld := hHeld2
   clear hHeld2
   try simp only [Act.put, a7, b7, c7]
   refine wpAnyH_ready (rs := [5, 6]) (by kernel_rfl) (by simp) ?rdy5045
   refine (AllReadyH.cons (ga7 rfl) (fun K hK => ?stp5045_5) (AllReadyH.cons (ga7 rfl) (fun K hK => ?stp5045_6) AllReadyH.nil))
   case stp5045_5 =>
    go_simp
    go_wp2_with fail
    (refine (S1.out _).mono ?_; rintro e w5 ⟨rfl, hb5⟩; have K5 := hHeld.below hb5; have s5 : w4.heap.size ≤ w5.heap.size := (by have := hb5.size; first | exact this | (simp at this; omega)); first | (have U5 := U4.below hb5; obtain ⟨a0, a1, a2, a3, a4⟩ := U5.two) | (have U5 : Blk w5 w4.heap.size #[.int .u64 0, .int .u64 0] 24 := Blk.via hb5 (Blk.new w4 #[.int .u64 0, .int .u64 0] 24) rfl; obtain ⟨p0, p1, p2, p3, p4⟩ := U5.two) | skip)
    go_wp2_with fail
    refine hK.out _ _ ?hSn5046 (fun hHeld2 => ?rest5046)
    case hSn5046 => (first | with_reducible exact R0.drew | with_reducible exact (R0.alloc _).drew | with_reducible exact hHeld.below hb4 | with_reducible exact hHeld.below hb5 | with_reducible exact hHeld.alloc _ | with_reducible exact K5.alloc _ | with_reducible exact hHeld.far2 (by simp only [Off]; repeat' (first | exact trivial | refine And.intro ?_ ?_ | omega)) (by omega) _ _ | with_reducible exact K5.far2 (by simp only [Off]; repeat' (first | exact trivial | refine And.intro ?_ ?_ | omega)) (by omega) _ _ | with_reducible exact (K5.alloc _).far2 (by simp only [Off]; repeat' (first | exact trivial | refine And.intro ?_ ?_ | omega)) (by omega) _ _)
    clear hK K hHeld
    have hHeld := hHeld2
    clear hHeld2
    try simp only [Act.put, a7, b7, c7]
    refine wpAnyH_ready (rs := [6]) (by kernel_rfl) (by simp) ?rdy5047
    refine (AllReadyH.cons (ga7 rfl) (fun K hK => ?stp5047_6) AllReadyH.nil)
    case stp5047_6 =>
     go_simp
     go_wp2_with fail
     refine hK.out _ _ ?hSn5048 (fun hHeld2 => ?rest5048)
     case hSn5048 => (first | with_reducible exact R0.drew | with_reducible exact (R0.alloc _).drew | with_reducible exact hHeld.below hb4 | with_reducible exact hHeld.below hb5 | with_reducible exact hHeld.alloc _ | with_reducible exact K5.alloc _ | with_reducible exact hHeld.far2 (by simp only [Off]; repeat' (first | exact trivial | refine And.intro ?_ ?_ | omega)) (by omega) _ _ | with_reducible exact K5.far2 (by simp only [Off]; repeat' (first | exact trivial | refine And.intro ?_ ?_ | omega)) (by omega) _ _ | with_reducible exact (K5.alloc _).far2 (by simp only [Off]; repeat' (first | exact trivial | refine And.intro ?_ ?_ | omega)) (by omega) _ _)
     clear hK K hHeld
     have hHeld := hHeld2
     clear hHeld2
     try simp only [Act.put, a7, b7, c7]
     refine wpAnyH_ready (rs := [7]) (by kernel_rfl) (by simp) ?rdy5049
     refine (AllReadyH.cons (ga7 rfl) (fun K hK => ?stp5049_7) AllReadyH.nil)
     case stp5049_7 =>
      go_simp
      go_wp2_with fail
      refine hK.out _ _ ?hSn5050 (fun hHeld2 => ?rest5050)
      case hSn5050 => (first | with_reducible exact R0.drew | with_reducible exact (R0.alloc _).drew | with_reducible exact hHeld.below hb4 | with_reducible exact hHeld.below hb5 | with_reducible exact hHeld.alloc _ | with_reducible exact K5.alloc _ | with_reducible exact hHeld.far2 (by simp only [Off]; repeat' (first | exact trivial | refine And.intro ?_ ?_ | omega)) (by omega) _ _ | with_reducible exact K5.far2 (by simp only [Off]; repeat' (first | exact trivial | refine And.intro ?_ ?_ | omega)) (by omega) _ _ | with_reducible exact (K5.alloc _).far2 (by simp only [Off]; repeat' (first | exact trivial | refine And.intro ?_ ?_ | omega)) (by omega) _ _)
      clear hK K hHeld
      have hHeld := hHeld2
      clear hHeld2
      try simp only [Act.put, a7, b7, c7]
      refine wpAnyH_done (by kernel_rfl) ?_ _
      go_wp2_with fail
      go_meet
      case rel => exact ⟨_, rfl, (by omega), (by repeat (first | with_reducible exact Blk.new _ _ _ | with_reducible exact U5 | with_reducible refine Blk.put2 (x := .int .u64 0) (y := .int .u64 0) ?_ _ _)), hHeld⟩
   case stp5045_6 =>
    go_simp
    go_wp2_with fail
    refine hK.out _ _ ?hSn5051 (fun hHeld2 => ?rest5051)
    case hSn5051 => (first | with_reducible exact R0.drew | with_reducible exact (R0.alloc _).drew | with_reducible exact hHeld.below hb4 | with_reducible exact hHeld.below hb5 | with_reducible exact hHeld.alloc _ | with_reducible exact K5.alloc _ | with_reducible exact hHeld.far2 (by simp only [Off]; repeat' (first | exact trivial | refine And.intro ?_ ?_ | omega)) (by omega) _ _ | with_reducible exact K5.far2 (by simp only [Off]; repeat' (first | exact trivial | refine And.intro ?_ ?_ | omega)) (by omega) _ _ | with_reducible exact (K5.alloc _).far2 (by simp only [Off]; repeat' (first | exact trivial | refine And.intro ?_ ?_ | omega)) (by omega) _ _)
    clear hK K hHeld
    have hHeld := hHeld2
    clear hHeld2
    try simp only [Act.put, a7, b7, c7]
    refine wpAnyH_ready (rs := [5]) (by kernel_rfl) (by simp) ?rdy5052
    refine (AllReadyH.cons (ga7 rfl) (fun K hK => ?stp5052_5) AllReadyH.nil)
    case stp5052_5 =>
     go_simp
     go_wp2_with fail
     (refine (S1.out _).mono ?_; rintro e w5 ⟨rfl, hb5⟩; have K5 := hHeld.below hb5; have s5 : w4.heap.size ≤ w5.heap.size := (by have := hb5.size; first | exact this | (simp at this; omega)); first | (have U5 := U4.below hb5; obtain ⟨a0, a1, a2, a3, a4⟩ := U5.two) | (have U5 : Blk w5 w4.heap.size #[.int .u64 0, .int .u64 0] 24 := Blk.via hb5 (Blk.new w4 #[.int .u64 0, .int .u64 0] 24) rfl; obtain ⟨p0, p1, p2, p3, p4⟩ := U5.two) | skip)
     go_wp2_with fail
     refine hK.out _ _ ?hSn5053 (fun hHeld2 => ?rest5053)
     case hSn5053 => (first | with_reducible exact R0.drew | with_reducible exact (R0.alloc _).drew | with_reducible exact hHeld.below hb4 | with_reducible exact hHeld.below hb5 | with_reducible exact hHeld.alloc _ | with_reducible exact K5.alloc _ | with_reducible exact hHeld.far2 (by simp only [Off]; repeat' (first | exact trivial | refine And.intro ?_ ?_ | omega)) (by omega) _ _ | with_reducible exact K5.far2 (by simp only [Off]; repeat' (first | exact trivial | refine And.intro ?_ ?_ | omega)) (by omega) _ _ | with_reducible exact (K5.alloc _).far2 (by simp only [Off]; repeat' (first | exact trivial | refine And.intro ?_ ?_ | omega)) (by omega) _ _)
     clear hK K hHeld
     have hHeld := hHeld2
     clear hHeld2
     try simp only [Act.put, a7, b7, c7]
     refine wpAnyH_ready (rs := [7]) (by kernel_rfl) (by simp) ?rdy5054
     refine (AllReadyH.cons (ga7 rfl) (fun K hK => ?stp5054_7) AllReadyH.nil)
     case stp5054_7 =>
      go_simp
      go_wp2_with fail
      refine hK.out _ _ ?hSn5055 (fun hHeld2 => ?rest5055)
      case hSn5055 => (first | with_reducible exact R0.drew | with_reducible exact (R0.alloc _).drew | with_reducible exact hHeld.below hb4 | with_reducible exact hHeld.below hb5 | with_reducible exact hHeld.alloc _ | with_reducible exact K5.alloc _ | with_reducible exact hHeld.far2 (by simp only [Off]; repeat' (first | exact trivial | refine And.intro ?_ ?_ | omega)) (by omega) _ _ | with_reducible exact K5.far2 (by simp only [Off]; repeat' (first | exact trivial | refine And.intro ?_ ?_ | omega)) (by omega) _ _ | with_reducible exact (K5.alloc _).far2 (by simp only [Off]; repeat' (first | exact trivial | refine And.intro ?_ ?_ | omega)) (by omega) _ _)
      clear hK K hHeld
      have hHeld := hHeld2
      clear hHeld2
      try simp only [Act.put, a7, b7, c7]
      refine wpAnyH_done (by kernel_rfl) ?_ _
      go_wp2_with fail
      go_meet
      case rel => exact ⟨_, rfl, (by omega), (by repeat (first | with_reducible exact Blk.new _ _ _ | with_reducible exact U5 | with_reducible refine Blk.put2 (x := .int .u64 0) (y := .int .u64 0) ?_ _ _)), hHeld⟩
  case stp5043_6 =>
   go_simp
   go_wp2_with fail
   refine hK.out _ _ ?hSn5056 (fun hHeld2 => ?rest5056)
   case hSn5056 => (first | with_reducible exact R0.drew | with_reducible exact (R0.alloc _).drew | with_reducible exact hHeld.below hb4 | with_reducible exact hHeld.below hb5 | with_reducible exact hHeld.alloc _ | with_reducible exact K5.alloc _ | with_reducible exact hHeld.far2 (by simp only [Off]; repeat' (first | exact trivial | refine And.intro ?_ ?_ | omega)) (by omega) _ _ | with_reducible exact K5.far2 (by simp only [Off]; repeat' (first | exact trivial | refine And.intro ?_ ?_ | omega)) (by omega) _ _ | with_reducible exact (K5.alloc _).far2 (by simp only [Off]; repeat' (first | exact trivial | refine And.intro ?_ ?_ | omega)) (by omega) _ _)
   clear hK K hHeld
   have hHeld := hHeld2
   clear hHeld2
   try simp only [Act.put, a7, b7, c7]
   refine wpAnyH_ready (rs := [0]) (by kernel_rfl) (by simp) ?rdy5057
   refine (AllReadyH.cons (ga7 rfl) (fun K hK => ?stp5057_0) AllReadyH.nil)
   case stp5057_0 =>
    go_simp
    go_wp2_with fail
    (refine (O1.out _).mono ?_; rintro e w4 ⟨rfl, hb4⟩; have s4 : w0.heap.size ≤ w4.heap.size := (by have := hb4.size; first | exact this | (simp at this; omega)); first | (have U4 : Blk w4 w0.heap.size #[.int .u64 0, .int .u64 0] 24 := Blk.via hb4 (Blk.new w0 #[.int .u64 0, .int .u64 0] 24) rfl; obtain ⟨u0, u1, u2, u3, u4⟩ := U4.two) | skip)
    go_wp2_with fail
    refine hK.out _ _ ?hSn5058 (fun hHeld2 => ?rest5058)
    case hSn5058 => (first | with_reducible exact R0.drew | with_reducible exact (R0.alloc _).drew | with_reducible exact hHeld.below hb4 | with_reducible exact hHeld.below hb5 | with_reducible exact hHeld.alloc _ | with_reducible exact K5.alloc _ | with_reducible exact hHeld.far2 (by simp only [Off]; repeat' (first | exact trivial | refine And.intro ?_ ?_ | omega)) (by omega) _ _ | with_reducible exact K5.far2 (by simp only [Off]; repeat' (first | exact trivial | refine And.intro ?_ ?_ | omega)) (by omega) _ _ | with_reducible exact (K5.alloc _).far2 (by simp only [Off]; repeat' (first | exact trivial | refine And.intro ?_ ?_ | omega)) (by omega) _ _)
    clear hK K hHeld
    have hHeld := hHeld2
    clear hHeld2
    try simp only [Act.put, a7, b7, c7]
    refine wpAnyH_ready (rs := [5]) (by kernel_rfl) (by simp) ?rdy5059
    refine (AllReadyH.cons (ga7 rfl) (fun K hK => ?stp5059_5) AllReadyH.nil)
    case stp5059_5 =>
     go_simp
     go_wp2_with fail
     (refine (S1.out _).mono ?_; rintro e w5 ⟨rfl, hb5⟩; have K5 := hHeld.below hb5; have s5 : w4.heap.size ≤ w5.heap.size := (by have := hb5.size; first | exact this | (simp at this; omega)); first | (have U5 := U4.below hb5; obtain ⟨a0, a1, a2, a3, a4⟩ := U5.two) | (have U5 : Blk w5 w4.heap.size #[.int .u64 0, .int .u64 0] 24 := Blk.via hb5 (Blk.new w4 #[.int .u64 0, .int .u64 0] 24) rfl; obtain ⟨p0, p1, p2, p3, p4⟩ := U5.two) | skip)
     go_wp2_with fail
     refine hK.out _ _ ?hSn5060 (fun hHeld2 => ?rest5060)
     case hSn5060 => (first | with_reducible exact R0.drew | with_reducible exact (R0.alloc _).drew | with_reducible exact hHeld.below hb4 | with_reducible exact hHeld.below hb5 | with_reducible exact hHeld.alloc _ | with_reducible exact K5.alloc _ | with_reducible exact hHeld.far2 (by simp only [Off]; repeat' (first | exact trivial | refine And.intro ?_ ?_ | omega)) (by omega) _ _ | with_reducible exact K5.far2 (by simp only [Off]; repeat' (first | exact trivial | refine And.intro ?_ ?_ | omega)) (by omega) _ _ | with_reducible exact (K5.alloc _).far2 (by simp only [Off]; repeat' (first | exact trivial | refine And.intro ?_ ?_ | omega)) (by omega) _ _)
     clear hK K hHeld
     have hHeld := hHeld2
     clear hHeld2
     try simp only [Act.put, a7, b7, c7]
     refine wpAnyH_ready (rs := [7]) (by kernel_rfl) (by simp) ?rdy5061
     refine (AllReadyH.cons (ga7 rfl) (fun K hK => ?stp5061_7) AllReadyH.nil)
     case stp5061_7 =>
      go_simp
      go_wp2_with fail
      refine hK.out _ _ ?hSn5062 (fun hHeld2 => ?rest5062)
      case hSn5062 => (first | with_reducible exact R0.drew | with_reducible exact (R0.alloc _).drew | with_reducible exact hHeld.below hb4 | with_reducible exact hHeld.below hb5 | with_reducible exact hHeld.alloc _ | with_reducible exact K5.alloc _ | with_reducible exact hHeld.far2 (by simp only [Off]; repeat' (first | exact trivial | refine And.intro ?_ ?_ | omega)) (by omega) _ _ | with_reducible exact K5.far2 (by simp only [Off]; repeat' (first | exact trivial | refine And.intro ?_ ?_ | omega)) (by omega) _ _ | with_reducible exact (K5.alloc _).far2 (by simp only [Off]; repeat' (first | exact trivial | refine And.intro ?_ ?_ | omega)) (by omega) _ _)
      clear hK K hHeld
      have hHeld := hHeld2
      clear hHeld2
      try simp only [Act.put, a7, b7, c7]
      refine wpAnyH_done (by kernel_rfl) ?_ _
      go_wp2_with fail
      go_meet
      case rel => exact ⟨_, rfl, (by omega), (by repeat (first | with_reducible exact Blk.new _ _ _ | with_reducible exact U5 | with_reducible refine Blk.put2 (x := .int .u64 0) (y := .int .u64 0) ?_ _ _)), hHeld⟩
 case rest =>
  obtain ⟨X, rfl, hX, N, R⟩ := hcut
  clear R0 LT hs0 O1 S1
  have R0 : Kn w [(X, [.int .u64 rh, .int .u64 rl], 24)] wc := Kn.of ⟨N, trivial⟩ R.bel
  obtain ⟨r0, r1, r2, r3, r4⟩ := R.2.1.1.two
  have B := R.bel
  have of1 : Off (w.heap.size + 1) [(X, [.int .u64 rh, .int .u64 rl], 24)] := by simp only [Off]; exact ⟨by omega, trivial⟩
  have le1 : w.heap.size ≤ w.heap.size + 1 := by omega
  clear R N
  go_upto_region 4 with fail
  refine wp_region_held_drew (S := (Kn w [(X, [.int .u64 rh, .int .u64 rl], 24)])) (by kernel_rfl) ?hS200 (fun hHeld => ?rest200)
  case hS200 => (first | with_reducible exact R0.drew | with_reducible exact (R0.far2 of1 le1 _ _).drew)
  refine w8 0 ?_ (ga7 rfl) (by kernel_rfl) (fun _ _ _ h => h) ⟨by rfl, ?y201⟩ hHeld ?_
  case y201 => (intro wq hSw; (try simp only [Two, Kn, Facts, CellsAt] at hSw); go_simp; try with_reducible rfl)
  try simp only [Act.put, a7, b7, c7]
  refine w8 1 ?_ (ga7 rfl) (by kernel_rfl) (fun _ _ _ h => h) ⟨by rfl, ?y202⟩ hHeld ?_
  case y202 => (intro wq hSw; (try simp only [Two, Kn, Facts, CellsAt] at hSw); go_simp; try with_reducible rfl)
  try simp only [Act.put, a7, b7, c7]
  refine w8 2 ?_ (ga7 rfl) (by kernel_rfl) (fun _ _ _ h => h) ⟨by rfl, ?y203⟩ hHeld ?_
  case y203 => (intro wq hSw; (try simp only [Two, Kn, Facts, CellsAt] at hSw); go_simp; try with_reducible rfl)
  try simp only [Act.put, a7, b7, c7]
  refine w8 3 ((Value.bool true)) (ga7 rfl) (by kernel_rfl) (fun _ _ _ h => h) ⟨by rfl, ?y204⟩ hHeld ?_
  case y204 => (intro wq hSw; (try simp only [Two, Kn, Facts, CellsAt] at hSw); go_simp; (all_goals (have nz := NZ.out; intro q r; omega)))
  try simp only [Act.put, a7, b7, c7]
  refine wpAnyH_ready (rs := [4]) (by kernel_rfl) (by simp) ?rdy205
  refine AllReadyH.cons (ga7 rfl) (fun K hK => ?stp205) AllReadyH.nil
  go_simp
  go_wp2_with fail
  skip
  go_wp2_with fail
  refine hK.out _ _ ?hSn205 (fun hHeld2 => ?rest205)
  case hSn205 => (first | with_reducible exact R0.drew | with_reducible exact hHeld.far2 of1 le1 _ _ | with_reducible exact (R0.far2 of1 le1 _ _).drew)
  clear hK K hHeld
  have hHeld := hHeld2
  clear hHeld2
  try simp only [Act.put, a7, b7, c7]
  refine w8 5 ?_ (ga7 rfl) (by kernel_rfl) (fun _ _ _ h => h) ⟨by rfl, ?y206⟩ hHeld ?_
  case y206 => (intro wq hSw; (try simp only [Two, Kn, Facts, CellsAt] at hSw); go_simp; try with_reducible rfl)
  try simp only [Act.put, a7, b7, c7]
  refine w8 6 ?_ (ga7 rfl) (by kernel_rfl) (fun _ _ _ h => h) ⟨by rfl, ?y207⟩ hHeld ?_
  case y207 => (intro wq hSw; (try simp only [Two, Kn, Facts, CellsAt] at hSw); go_simp; try with_reducible rfl)
  try simp only [Act.put, a7, b7, c7]
  refine wpAnyH_done (by kernel_rfl) ?fin200 _
  clear hHeld R0 of1 NZ
  go_wp2
  refine bodyPost_ret (v := .tuple #[nv rh rl, .bool true, .int .i64 0]) (by simp [results, Tryz.results129, go_sem, World.cell?_setCell_same', World.cell?_setCell_other, *]) rfl ⟨rfl, by repeat (first | with_reducible exact Below.refl _ _ | with_reducible refine Below.drew ?_ | with_reducible refine Below.alloc ?_ (by first | omega | (simp <;> omega)) _ | with_reducible refine Below.setCell ?_ (by first | omega | (simp <;> omega)) _ | with_reducible refine Below.trans ?_ (Below.mono B (by first | omega | (simp <;> omega))))⟩

set_option maxRecDepth 100000 in
set_option maxHeartbeats 1600000 in
theorem blks_ok_f {v : Bool} {h l b k rh rl : Int} {n : Nat} (hp : IsNum h l n) (hc : cutB v n b k = true) (hr : IsNum rh rl (1 * 2 ^ (k - b).toNat % 340282366920938463463374607431768211456)) (nz : rh = 0 ∧ rl = 0) (w : World) :
  Calls Tryz.prog 129 #[pv v h l b, .int .i64 k] w fun e w' => e = .returned (.tuple #[nv rh rl, .bool false, .int .i64 0]) ∧ Below w.heap.size w w' := by
 have C1 : Hid (∀ w', Calls Tryz.prog 161 #[pv v h l b, .int .i64 k] w' fun e w1 => e = .returned (.bool true) ∧ Below w'.heap.size w' w1) := fun w' => hc ▸ cuts_c hp w'
 obtain ⟨_, b0, b1, b2, _⟩ := cutB_parts hc
 have hW2 := width_le v
 have one : IsNum 0 1 1 := ⟨by omega, by omega, by omega, by omega, rfl⟩
 have O1 : Hid (∀ w', Calls Tryz.prog 34 #[.int .u64 1] w' fun e w1 => e = .returned (nv 0 1) ∧ Below w'.heap.size w' w1) := fun w' => of_w 1 w'
 have S1 : Hid (∀ w', Calls Tryz.prog 116 #[nv 0 1, .int .i64 (k - b)] w' fun e w1 => e = .returned (nv rh rl) ∧ Below w'.heap.size w' w1) := fun w' => shl_is one (by omega) hr w'
 have hw1 : IntKind.i64.wrap (k - b) = k - b := by simp [IntKind.wrap, IntKind.bits, IntKind.signed]; omega
 have NZ : Hid (rh = 0 ∧ rl = 0) := nz
 have K := blks_start w v h l b
 clear hp hc hr b0 b1 b2 hW2 one nz
 go_enter Tryz.func129, Tryz.ntmps129
 go_wp2_with fail
 refine (C1.out _).mono ?_
 rintro e w0 ⟨rfl, hb⟩
 have R0 := K.below hb
 have LT := R0.lts
 simp only [Lts] at LT
 have hs0 := R0.bel.size
 clear hb C1 K
 go_upto_region 3 with fail
 go_cut [7] (fun p wc => ∃ X : Nat, p = .pointer (some ⟨X, 0, none⟩) ∧ w.heap.size + 1 < X ∧ Blk wc X #[.int .u64 rh, .int .u64 rl] 24 ∧ Kn w [(w.heap.size + 1, [.int .u64 0, .int .u64 0], 24), (w.heap.size, [.bool v, .int .u64 h, .int .u64 l, .int .i64 b], 28)] wc)
 case first =>
  refine wp_region_held_drew (S := (Kn w [(w.heap.size + 1, [.int .u64 0, .int .u64 0], 24), (w.heap.size, [.bool v, .int .u64 h, .int .u64 l, .int .i64 b], 28)])) (by kernel_rfl) ?hS5063 (fun hHeld => ?rest5063)
  case hS5063 => (first | with_reducible exact R0.drew | with_reducible exact (R0.alloc _).drew | with_reducible exact hHeld.below hb4 | with_reducible exact hHeld.below hb5 | with_reducible exact hHeld.alloc _ | with_reducible exact K5.alloc _ | with_reducible exact hHeld.far2 (by simp only [Off]; repeat' (first | exact trivial | refine And.intro ?_ ?_ | omega)) (by omega) _ _ | with_reducible exact K5.far2 (by simp only [Off]; repeat' (first | exact trivial | refine And.intro ?_ ?_ | omega)) (by omega) _ _ | with_reducible exact (K5.alloc _).far2 (by simp only [Off]; repeat' (first | exact trivial | refine And.intro ?_ ?_ | omega)) (by omega) _ _)
  refine w8 1 ?_ (ga7 rfl) (by kernel_rfl) (fun _ _ _ h => h) ⟨by rfl, ?y5064⟩ hHeld ?_
  case y5064 => (intro wq hSw; (try simp only [Two, Kn, Facts, CellsAt] at hSw); go_simp; try with_reducible rfl)
  try simp only [Act.put, a7, b7, c7]
  refine w8 2 ?_ (ga7 rfl) (by kernel_rfl) (fun _ _ _ h => h) ⟨by rfl, ?y5065⟩ hHeld ?_
  case y5065 => (intro wq hSw; (try simp only [Two, Kn, Facts, CellsAt] at hSw); go_simp; try with_reducible rfl)
  try simp only [Act.put, a7, b7, c7]
  refine w8 3 ?_ (ga7 rfl) (by kernel_rfl) (fun _ _ _ h => h) ⟨by rfl, ?y5066⟩ hHeld ?_
  case y5066 => (intro wq hSw; (try simp only [Two, Kn, Facts, CellsAt] at hSw); go_simp; try with_reducible rfl)
  try simp only [Act.put, a7, b7, c7]
  refine w8 4 ?_ (ga7 rfl) (by kernel_rfl) (fun _ _ _ h => h) ⟨by rfl, ?y5067⟩ hHeld ?_
  case y5067 => (intro wq hSw; (try simp only [Two, Kn, Facts, CellsAt] at hSw); go_simp; try with_reducible rfl)
  try simp only [Act.put, a7, b7, c7]
  refine wpAnyH_ready (rs := [0, 6]) (by kernel_rfl) (by simp) ?rdy5068
  refine (AllReadyH.cons (ga7 rfl) (fun K hK => ?stp5068_0) (AllReadyH.cons (ga7 rfl) (fun K hK => ?stp5068_6) AllReadyH.nil))
  case stp5068_0 =>
   go_simp
   go_wp2_with fail
   (refine (O1.out _).mono ?_; rintro e w4 ⟨rfl, hb4⟩; have s4 : w0.heap.size ≤ w4.heap.size := (by have := hb4.size; first | exact this | (simp at this; omega)); first | (have U4 : Blk w4 w0.heap.size #[.int .u64 0, .int .u64 0] 24 := Blk.via hb4 (Blk.new w0 #[.int .u64 0, .int .u64 0] 24) rfl; obtain ⟨u0, u1, u2, u3, u4⟩ := U4.two) | skip)
   go_wp2_with fail
   refine hK.out _ _ ?hSn5069 (fun hHeld2 => ?rest5069)
   case hSn5069 => (first | with_reducible exact R0.drew | with_reducible exact (R0.alloc _).drew | with_reducible exact hHeld.below hb4 | with_reducible exact hHeld.below hb5 | with_reducible exact hHeld.alloc _ | with_reducible exact K5.alloc _ | with_reducible exact hHeld.far2 (by simp only [Off]; repeat' (first | exact trivial | refine And.intro ?_ ?_ | omega)) (by omega) _ _ | with_reducible exact K5.far2 (by simp only [Off]; repeat' (first | exact trivial | refine And.intro ?_ ?_ | omega)) (by omega) _ _ | with_reducible exact (K5.alloc _).far2 (by simp only [Off]; repeat' (first | exact trivial | refine And.intro ?_ ?_ | omega)) (by omega) _ _)
   clear hK K hHeld
   have hHeld := hHeld2
   clear hHeld2
   try simp only [Act.put, a7, b7, c7]
   refine wpAnyH_ready (rs := [5, 6]) (by kernel_rfl) (by simp) ?rdy5070
   refine (AllReadyH.cons (ga7 rfl) (fun K hK => ?stp5070_5) (AllReadyH.cons (ga7 rfl) (fun K hK => ?stp5070_6) AllReadyH.nil))
   case stp5070_5 =>
    go_simp
    go_wp2_with fail
    (refine (S1.out _).mono ?_; rintro e w5 ⟨rfl, hb5⟩; have K5 := hHeld.below hb5; have s5 : w4.heap.size ≤ w5.heap.size := (by have := hb5.size; first | exact this | (simp at this; omega)); first | (have U5 := U4.below hb5; obtain ⟨a0, a1, a2, a3, a4⟩ := U5.two) | (have U5 : Blk w5 w4.heap.size #[.int .u64 0, .int .u64 0] 24 := Blk.via hb5 (Blk.new w4 #[.int .u64 0, .int .u64 0] 24) rfl; obtain ⟨p0, p1, p2, p3, p4⟩ := U5.two) | skip)
    go_wp2_with fail
    refine hK.out _ _ ?hSn5071 (fun hHeld2 => ?rest5071)
    case hSn5071 => (first | with_reducible exact R0.drew | with_reducible exact (R0.alloc _).drew | with_reducible exact hHeld.below hb4 | with_reducible exact hHeld.below hb5 | with_reducible exact hHeld.alloc _ | with_reducible exact K5.alloc _ | with_reducible exact hHeld.far2 (by simp only [Off]; repeat' (first | exact trivial | refine And.intro ?_ ?_ | omega)) (by omega) _ _ | with_reducible exact K5.far2 (by simp only [Off]; repeat' (first | exact trivial | refine And.intro ?_ ?_ | omega)) (by omega) _ _ | with_reducible exact (K5.alloc _).far2 (by simp only [Off]; repeat' (first | exact trivial | refine And.intro ?_ ?_ | omega)) (by omega) _ _)
    clear hK K hHeld
    have hHeld := hHeld2
    clear hHeld2
    try simp only [Act.put, a7, b7, c7]
    refine wpAnyH_ready (rs := [6]) (by kernel_rfl) (by simp) ?rdy5072
    refine (AllReadyH.cons (ga7 rfl) (fun K hK => ?stp5072_6) AllReadyH.nil)
    case stp5072_6 =>
     go_simp
     go_wp2_with fail
     refine hK.out _ _ ?hSn5073 (fun hHeld2 => ?rest5073)
     case hSn5073 => (first | with_reducible exact R0.drew | with_reducible exact (R0.alloc _).drew | with_reducible exact hHeld.below hb4 | with_reducible exact hHeld.below hb5 | with_reducible exact hHeld.alloc _ | with_reducible exact K5.alloc _ | with_reducible exact hHeld.far2 (by simp only [Off]; repeat' (first | exact trivial | refine And.intro ?_ ?_ | omega)) (by omega) _ _ | with_reducible exact K5.far2 (by simp only [Off]; repeat' (first | exact trivial | refine And.intro ?_ ?_ | omega)) (by omega) _ _ | with_reducible exact (K5.alloc _).far2 (by simp only [Off]; repeat' (first | exact trivial | refine And.intro ?_ ?_ | omega)) (by omega) _ _)
     clear hK K hHeld
     have hHeld := hHeld2
     clear hHeld2
     try simp only [Act.put, a7, b7, c7]
     refine wpAnyH_ready (rs := [7]) (by kernel_rfl) (by simp) ?rdy5074
     refine (AllReadyH.cons (ga7 rfl) (fun K hK => ?stp5074_7) AllReadyH.nil)
     case stp5074_7 =>
      go_simp
      go_wp2_with fail
      refine hK.out _ _ ?hSn5075 (fun hHeld2 => ?rest5075)
      case hSn5075 => (first | with_reducible exact R0.drew | with_reducible exact (R0.alloc _).drew | with_reducible exact hHeld.below hb4 | with_reducible exact hHeld.below hb5 | with_reducible exact hHeld.alloc _ | with_reducible exact K5.alloc _ | with_reducible exact hHeld.far2 (by simp only [Off]; repeat' (first | exact trivial | refine And.intro ?_ ?_ | omega)) (by omega) _ _ | with_reducible exact K5.far2 (by simp only [Off]; repeat' (first | exact trivial | refine And.intro ?_ ?_ | omega)) (by omega) _ _ | with_reducible exact (K5.alloc _).far2 (by simp only [Off]; repeat' (first | exact trivial | refine And.intro ?_ ?_ | omega)) (by omega) _ _)
      clear hK K hHeld
      have hHeld := hHeld2
      clear hHeld2
      try simp only [Act.put, a7, b7, c7]
      refine wpAnyH_done (by kernel_rfl) ?_ _
      go_wp2_with fail
      go_meet
      case rel => exact ⟨_, rfl, (by omega), (by repeat (first | with_reducible exact Blk.new _ _ _ | with_reducible exact U5 | with_reducible refine Blk.put2 (x := .int .u64 0) (y := .int .u64 0) ?_ _ _)), hHeld⟩
   case stp5070_6 =>
    go_simp
    go_wp2_with fail
    refine hK.out _ _ ?hSn5076 (fun hHeld2 => ?rest5076)
    case hSn5076 => (first | with_reducible exact R0.drew | with_reducible exact (R0.alloc _).drew | with_reducible exact hHeld.below hb4 | with_reducible exact hHeld.below hb5 | with_reducible exact hHeld.alloc _ | with_reducible exact K5.alloc _ | with_reducible exact hHeld.far2 (by simp only [Off]; repeat' (first | exact trivial | refine And.intro ?_ ?_ | omega)) (by omega) _ _ | with_reducible exact K5.far2 (by simp only [Off]; repeat' (first | exact trivial | refine And.intro ?_ ?_ | omega)) (by omega) _ _ | with_reducible exact (K5.alloc _).far2 (by simp only [Off]; repeat' (first | exact trivial | refine And.intro ?_ ?_ | omega)) (by omega) _ _)
    clear hK K hHeld
    have hHeld := hHeld2
    clear hHeld2
    try simp only [Act.put, a7, b7, c7]
    refine wpAnyH_ready (rs := [5]) (by kernel_rfl) (by simp) ?rdy5077
    refine (AllReadyH.cons (ga7 rfl) (fun K hK => ?stp5077_5) AllReadyH.nil)
    case stp5077_5 =>
     go_simp
     go_wp2_with fail
     (refine (S1.out _).mono ?_; rintro e w5 ⟨rfl, hb5⟩; have K5 := hHeld.below hb5; have s5 : w4.heap.size ≤ w5.heap.size := (by have := hb5.size; first | exact this | (simp at this; omega)); first | (have U5 := U4.below hb5; obtain ⟨a0, a1, a2, a3, a4⟩ := U5.two) | (have U5 : Blk w5 w4.heap.size #[.int .u64 0, .int .u64 0] 24 := Blk.via hb5 (Blk.new w4 #[.int .u64 0, .int .u64 0] 24) rfl; obtain ⟨p0, p1, p2, p3, p4⟩ := U5.two) | skip)
     go_wp2_with fail
     refine hK.out _ _ ?hSn5078 (fun hHeld2 => ?rest5078)
     case hSn5078 => (first | with_reducible exact R0.drew | with_reducible exact (R0.alloc _).drew | with_reducible exact hHeld.below hb4 | with_reducible exact hHeld.below hb5 | with_reducible exact hHeld.alloc _ | with_reducible exact K5.alloc _ | with_reducible exact hHeld.far2 (by simp only [Off]; repeat' (first | exact trivial | refine And.intro ?_ ?_ | omega)) (by omega) _ _ | with_reducible exact K5.far2 (by simp only [Off]; repeat' (first | exact trivial | refine And.intro ?_ ?_ | omega)) (by omega) _ _ | with_reducible exact (K5.alloc _).far2 (by simp only [Off]; repeat' (first | exact trivial | refine And.intro ?_ ?_ | omega)) (by omega) _ _)
     clear hK K hHeld
     have hHeld := hHeld2
     clear hHeld2
     try simp only [Act.put, a7, b7, c7]
     refine wpAnyH_ready (rs := [7]) (by kernel_rfl) (by simp) ?rdy5079
     refine (AllReadyH.cons (ga7 rfl) (fun K hK => ?stp5079_7) AllReadyH.nil)
     case stp5079_7 =>
      go_simp
      go_wp2_with fail
      refine hK.out _ _ ?hSn5080 (fun hHeld2 => ?rest5080)
      case hSn5080 => (first | with_reducible exact R0.drew | with_reducible exact (R0.alloc _).drew | with_reducible exact hHeld.below hb4 | with_reducible exact hHeld.below hb5 | with_reducible exact hHeld.alloc _ | with_reducible exact K5.alloc _ | with_reducible exact hHeld.far2 (by simp only [Off]; repeat' (first | exact trivial | refine And.intro ?_ ?_ | omega)) (by omega) _ _ | with_reducible exact K5.far2 (by simp only [Off]; repeat' (first | exact trivial | refine And.intro ?_ ?_ | omega)) (by omega) _ _ | with_reducible exact (K5.alloc _).far2 (by simp only [Off]; repeat' (first | exact trivial | refine And.intro ?_ ?_ | omega)) (by omega) _ _)
      clear hK K hHeld
      have hHeld := hHeld2
      clear hHeld2
      try simp only [Act.put, a7, b7, c7]
      refine wpAnyH_done (by kernel_rfl) ?_ _
      go_wp2_with fail
      go_meet
      case rel => exact ⟨_, rfl, (by omega), (by repeat (first | with_reducible exact Blk.new _ _ _ | with_reducible exact U5 | with_reducible refine Blk.put2 (x := .int .u64 0) (y := .int .u64 0) ?_ _ _)), hHeld⟩
  case stp5068_6 =>
   go_simp
   go_wp2_with fail
   refine hK.out _ _ ?hSn5081 (fun hHeld2 => ?rest5081)
   case hSn5081 => (first | with_reducible exact R0.drew | with_reducible exact (R0.alloc _).drew | with_reducible exact hHeld.below hb4 | with_reducible exact hHeld.below hb5 | with_reducible exact hHeld.alloc _ | with_reducible exact K5.alloc _ | with_reducible exact hHeld.far2 (by simp only [Off]; repeat' (first | exact trivial | refine And.intro ?_ ?_ | omega)) (by omega) _ _ | with_reducible exact K5.far2 (by simp only [Off]; repeat' (first | exact trivial | refine And.intro ?_ ?_ | omega)) (by omega) _ _ | with_reducible exact (K5.alloc _).far2 (by simp only [Off]; repeat' (first | exact trivial | refine And.intro ?_ ?_ | omega)) (by omega) _ _)
   clear hK K hHeld
   have hHeld := hHeld2
   clear hHeld2
   try simp only [Act.put, a7, b7, c7]
   refine wpAnyH_ready (rs := [0]) (by kernel_rfl) (by simp) ?rdy5082
   refine (AllReadyH.cons (ga7 rfl) (fun K hK => ?stp5082_0) AllReadyH.nil)
   case stp5082_0 =>
    go_simp
    go_wp2_with fail
    (refine (O1.out _).mono ?_; rintro e w4 ⟨rfl, hb4⟩; have s4 : w0.heap.size ≤ w4.heap.size := (by have := hb4.size; first | exact this | (simp at this; omega)); first | (have U4 : Blk w4 w0.heap.size #[.int .u64 0, .int .u64 0] 24 := Blk.via hb4 (Blk.new w0 #[.int .u64 0, .int .u64 0] 24) rfl; obtain ⟨u0, u1, u2, u3, u4⟩ := U4.two) | skip)
    go_wp2_with fail
    refine hK.out _ _ ?hSn5083 (fun hHeld2 => ?rest5083)
    case hSn5083 => (first | with_reducible exact R0.drew | with_reducible exact (R0.alloc _).drew | with_reducible exact hHeld.below hb4 | with_reducible exact hHeld.below hb5 | with_reducible exact hHeld.alloc _ | with_reducible exact K5.alloc _ | with_reducible exact hHeld.far2 (by simp only [Off]; repeat' (first | exact trivial | refine And.intro ?_ ?_ | omega)) (by omega) _ _ | with_reducible exact K5.far2 (by simp only [Off]; repeat' (first | exact trivial | refine And.intro ?_ ?_ | omega)) (by omega) _ _ | with_reducible exact (K5.alloc _).far2 (by simp only [Off]; repeat' (first | exact trivial | refine And.intro ?_ ?_ | omega)) (by omega) _ _)
    clear hK K hHeld
    have hHeld := hHeld2
    clear hHeld2
    try simp only [Act.put, a7, b7, c7]
    refine wpAnyH_ready (rs := [5]) (by kernel_rfl) (by simp) ?rdy5084
    refine (AllReadyH.cons (ga7 rfl) (fun K hK => ?stp5084_5) AllReadyH.nil)
    case stp5084_5 =>
     go_simp
     go_wp2_with fail
     (refine (S1.out _).mono ?_; rintro e w5 ⟨rfl, hb5⟩; have K5 := hHeld.below hb5; have s5 : w4.heap.size ≤ w5.heap.size := (by have := hb5.size; first | exact this | (simp at this; omega)); first | (have U5 := U4.below hb5; obtain ⟨a0, a1, a2, a3, a4⟩ := U5.two) | (have U5 : Blk w5 w4.heap.size #[.int .u64 0, .int .u64 0] 24 := Blk.via hb5 (Blk.new w4 #[.int .u64 0, .int .u64 0] 24) rfl; obtain ⟨p0, p1, p2, p3, p4⟩ := U5.two) | skip)
     go_wp2_with fail
     refine hK.out _ _ ?hSn5085 (fun hHeld2 => ?rest5085)
     case hSn5085 => (first | with_reducible exact R0.drew | with_reducible exact (R0.alloc _).drew | with_reducible exact hHeld.below hb4 | with_reducible exact hHeld.below hb5 | with_reducible exact hHeld.alloc _ | with_reducible exact K5.alloc _ | with_reducible exact hHeld.far2 (by simp only [Off]; repeat' (first | exact trivial | refine And.intro ?_ ?_ | omega)) (by omega) _ _ | with_reducible exact K5.far2 (by simp only [Off]; repeat' (first | exact trivial | refine And.intro ?_ ?_ | omega)) (by omega) _ _ | with_reducible exact (K5.alloc _).far2 (by simp only [Off]; repeat' (first | exact trivial | refine And.intro ?_ ?_ | omega)) (by omega) _ _)
     clear hK K hHeld
     have hHeld := hHeld2
     clear hHeld2
     try simp only [Act.put, a7, b7, c7]
     refine wpAnyH_ready (rs := [7]) (by kernel_rfl) (by simp) ?rdy5086
     refine (AllReadyH.cons (ga7 rfl) (fun K hK => ?stp5086_7) AllReadyH.nil)
     case stp5086_7 =>
      go_simp
      go_wp2_with fail
      refine hK.out _ _ ?hSn5087 (fun hHeld2 => ?rest5087)
      case hSn5087 => (first | with_reducible exact R0.drew | with_reducible exact (R0.alloc _).drew | with_reducible exact hHeld.below hb4 | with_reducible exact hHeld.below hb5 | with_reducible exact hHeld.alloc _ | with_reducible exact K5.alloc _ | with_reducible exact hHeld.far2 (by simp only [Off]; repeat' (first | exact trivial | refine And.intro ?_ ?_ | omega)) (by omega) _ _ | with_reducible exact K5.far2 (by simp only [Off]; repeat' (first | exact trivial | refine And.intro ?_ ?_ | omega)) (by omega) _ _ | with_reducible exact (K5.alloc _).far2 (by simp only [Off]; repeat' (first | exact trivial | refine And.intro ?_ ?_ | omega)) (by omega) _ _)
      clear hK K hHeld
      have hHeld := hHeld2
      clear hHeld2
      try simp only [Act.put, a7, b7, c7]
      refine wpAnyH_done (by kernel_rfl) ?_ _
      go_wp2_with fail
      go_meet
      case rel => exact ⟨_, rfl, (by omega), (by repeat (first | with_reducible exact Blk.new _ _ _ | with_reducible exact U5 | with_reducible refine Blk.put2 (x := .int .u64 0) (y := .int .u64 0) ?_ _ _)), hHeld⟩
 case rest =>
  obtain ⟨X, rfl, hX, N, R⟩ := hcut
  clear R0 LT hs0 O1 S1
  have R0 : Kn w [(X, [.int .u64 rh, .int .u64 rl], 24)] wc := Kn.of ⟨N, trivial⟩ R.bel
  obtain ⟨r0, r1, r2, r3, r4⟩ := R.2.1.1.two
  have B := R.bel
  have of1 : Off (w.heap.size + 1) [(X, [.int .u64 rh, .int .u64 rl], 24)] := by simp only [Off]; exact ⟨by omega, trivial⟩
  have le1 : w.heap.size ≤ w.heap.size + 1 := by omega
  clear R N
  go_upto_region 4 with fail
  refine wp_region_held_drew (S := (Kn w [(X, [.int .u64 rh, .int .u64 rl], 24)])) (by kernel_rfl) ?hS300 (fun hHeld => ?rest300)
  case hS300 => (first | with_reducible exact R0.drew | with_reducible exact (R0.far2 of1 le1 _ _).drew)
  refine w8 0 ?_ (ga7 rfl) (by kernel_rfl) (fun _ _ _ h => h) ⟨by rfl, ?y301⟩ hHeld ?_
  case y301 => (intro wq hSw; (try simp only [Two, Kn, Facts, CellsAt] at hSw); go_simp; try with_reducible rfl)
  try simp only [Act.put, a7, b7, c7]
  refine w8 1 ?_ (ga7 rfl) (by kernel_rfl) (fun _ _ _ h => h) ⟨by rfl, ?y302⟩ hHeld ?_
  case y302 => (intro wq hSw; (try simp only [Two, Kn, Facts, CellsAt] at hSw); go_simp; try with_reducible rfl)
  try simp only [Act.put, a7, b7, c7]
  refine w8 2 ?_ (ga7 rfl) (by kernel_rfl) (fun _ _ _ h => h) ⟨by rfl, ?y303⟩ hHeld ?_
  case y303 => (intro wq hSw; (try simp only [Two, Kn, Facts, CellsAt] at hSw); go_simp; try with_reducible rfl)
  try simp only [Act.put, a7, b7, c7]
  refine w8 3 ((Value.bool false)) (ga7 rfl) (by kernel_rfl) (fun _ _ _ h => h) ⟨by rfl, ?y304⟩ hHeld ?_
  case y304 => (intro wq hSw; (try simp only [Two, Kn, Facts, CellsAt] at hSw); go_simp; (all_goals (have nz := NZ.out; simp [nz.1, nz.2])))
  try simp only [Act.put, a7, b7, c7]
  refine wpAnyH_ready (rs := [4]) (by kernel_rfl) (by simp) ?rdy305
  refine AllReadyH.cons (ga7 rfl) (fun K hK => ?stp305) AllReadyH.nil
  go_simp
  go_wp2_with fail
  skip
  go_wp2_with fail
  refine hK.out _ _ ?hSn305 (fun hHeld2 => ?rest305)
  case hSn305 => (first | with_reducible exact R0.drew | with_reducible exact hHeld.far2 of1 le1 _ _ | with_reducible exact (R0.far2 of1 le1 _ _).drew)
  clear hK K hHeld
  have hHeld := hHeld2
  clear hHeld2
  try simp only [Act.put, a7, b7, c7]
  refine w8 5 ?_ (ga7 rfl) (by kernel_rfl) (fun _ _ _ h => h) ⟨by rfl, ?y306⟩ hHeld ?_
  case y306 => (intro wq hSw; (try simp only [Two, Kn, Facts, CellsAt] at hSw); go_simp; try with_reducible rfl)
  try simp only [Act.put, a7, b7, c7]
  refine w8 6 ?_ (ga7 rfl) (by kernel_rfl) (fun _ _ _ h => h) ⟨by rfl, ?y307⟩ hHeld ?_
  case y307 => (intro wq hSw; (try simp only [Two, Kn, Facts, CellsAt] at hSw); go_simp; try with_reducible rfl)
  try simp only [Act.put, a7, b7, c7]
  refine wpAnyH_done (by kernel_rfl) ?fin300 _
  clear hHeld R0 of1 NZ
  go_wp2
  refine bodyPost_ret (v := .tuple #[nv rh rl, .bool false, .int .i64 0]) (by simp [results, Tryz.results129, go_sem, World.cell?_setCell_same', World.cell?_setCell_other, *]) rfl ⟨rfl, by repeat (first | with_reducible exact Below.refl _ _ | with_reducible refine Below.drew ?_ | with_reducible refine Below.alloc ?_ (by first | omega | (simp <;> omega)) _ | with_reducible refine Below.setCell ?_ (by first | omega | (simp <;> omega)) _ | with_reducible refine Below.trans ?_ (Below.mono B (by first | omega | (simp <;> omega))))⟩

theorem blks_ok {v t : Bool} {h l b k rh rl : Int} {n : Nat} (hp : IsNum h l n) (hc : cutB v n b k = true) (hr : CountIs (k - b).toNat rh rl t) (w : World) :
  Calls Tryz.prog 129 #[pv v h l b, .int .i64 k] w fun e w' => e = .returned (.tuple #[nv rh rl, .bool t, .int .i64 0]) ∧ Below w.heap.size w w' := by
 rcases hr.nought with ⟨rfl, nz⟩ | ⟨rfl, nz⟩
 ·exact blks_ok_t hp hc hr.mod nz w
 ·exact blks_ok_f hp hc hr.mod nz w

set_option maxRecDepth 100000 in
set_option maxHeartbeats 1600000 in
theorem hosts_any {v t : Bool} {h l b rh rl ec W : Int} (hW : widthA v = W) (BK : Hid (∀ w', Calls Tryz.prog 129 #[pv v h l b, .int .i64 W] w' fun e w1 => e = .returned (.tuple #[nv rh rl, .bool t, .int .i64 ec]) ∧ Below w'.heap.size w' w1)) (w : World) :
  Calls Tryz.prog 94 #[pv v h l b] w fun e w' => e = .returned (.tuple #[nv rh rl, .bool t, .int .i64 ec]) ∧ Below w.heap.size w w' := by
 have CW : Hid (∀ w', Calls Tryz.prog 35 #[av v h l] w' fun e w1 => e = .returned (.int .i64 W) ∧ Below w'.heap.size w' w1) := fun w' => width_lit v W hW h l w'
 have K := blks_start w v h l b
 have R0 := K.tail
 have N0 := K.2.1.1
 have of1 : Off (w.heap.size + 1) [(w.heap.size, [.bool v, .int .u64 h, .int .u64 l, .int .i64 b], 28)] := by simp only [Off]; exact ⟨by omega, trivial⟩
 have le1 : w.heap.size ≤ w.heap.size + 1 := by omega
 clear hW K
 go_enter Tryz.func94, Tryz.ntmps94
 go_wp2_with fail
 refine wp_region_held_drew (S := (Kn w [(w.heap.size, [.bool v, .int .u64 h, .int .u64 l, .int .i64 b], 28)])) (by kernel_rfl) ?hS400 (fun hHeld => ?rest400)
 case hS400 => with_reducible exact R0.drew
 refine w8 0 ?_ (ga7 rfl) (by kernel_rfl) (fun _ _ _ h => h) ⟨by rfl, ?y401⟩ hHeld ?_
 case y401 => (intro wq hSw; (try simp only [Two, Kn, Facts, CellsAt] at hSw); go_simp; try with_reducible rfl)
 try simp only [Act.put, a7, b7, c7]
 refine w8 1 ?_ (ga7 rfl) (by kernel_rfl) (fun _ _ _ h => h) ⟨by rfl, ?y402⟩ hHeld ?_
 case y402 => (intro wq hSw; (try simp only [Two, Kn, Facts, CellsAt] at hSw); go_simp; try with_reducible rfl)
 try simp only [Act.put, a7, b7, c7]
 refine w8 2 ?_ (ga7 rfl) (by kernel_rfl) (fun _ _ _ h => h) ⟨by rfl, ?y403⟩ hHeld ?_
 case y403 => (intro wq hSw; (try simp only [Two, Kn, Facts, CellsAt] at hSw); go_simp; try with_reducible rfl)
 try simp only [Act.put, a7, b7, c7]
 refine wpAnyH_ready (rs := [3]) (by kernel_rfl) (by simp) ?rdy404
 refine AllReadyH.cons (ga7 rfl) (fun K hK => ?stp404) AllReadyH.nil
 go_simp
 go_wp2_with fail
 (refine (CW.out _).mono ?_; rintro e w4 ⟨rfl, hb4⟩)
 go_wp2_with fail
 refine hK.out _ _ ?hSn404 (fun hHeld2 => ?rest404)
 case hSn404 => with_reducible exact hHeld.below hb4
 clear hK K hHeld
 have hHeld := hHeld2
 clear hHeld2
 try simp only [Act.put, a7, b7, c7]
 refine wpAnyH_ready (rs := [4]) (by kernel_rfl) (by simp) ?rdy405
 refine AllReadyH.cons (ga7 rfl) (fun K hK => ?stp405) AllReadyH.nil
 go_simp
 go_wp2_with fail
 (refine (BK.out _).mono ?_; rintro e w5 ⟨rfl, hb5⟩; have B5 := (hHeld.below hb5).bel; obtain ⟨r0, r1, r2, r3, r4⟩ := ((N0.via hb4 rfl).below hb5).two)
 go_wp2_with fail
 refine hK.out _ _ ?hSn405 (fun hHeld2 => ?rest405)
 case hSn405 => (first | with_reducible exact hHeld.below hb4 | with_reducible exact hHeld.below hb5)
 clear hK K hHeld
 have hHeld := hHeld2
 clear hHeld2
 try simp only [Act.put, a7, b7, c7]
 refine w8 5 ?_ (ga7 rfl) (by kernel_rfl) (fun _ _ _ h => h) ⟨by rfl, ?y406⟩ hHeld ?_
 case y406 => (intro wq hSw; (try simp only [Two, Kn, Facts, CellsAt] at hSw); go_simp; try with_reducible rfl)
 try simp only [Act.put, a7, b7, c7]
 refine w8 6 ?_ (ga7 rfl) (by kernel_rfl) (fun _ _ _ h => h) ⟨by rfl, ?y407⟩ hHeld ?_
 case y407 => (intro wq hSw; (try simp only [Two, Kn, Facts, CellsAt] at hSw); go_simp; try with_reducible rfl)
 try simp only [Act.put, a7, b7, c7]
 refine w8 7 ?_ (ga7 rfl) (by kernel_rfl) (fun _ _ _ h => h) ⟨by rfl, ?y408⟩ hHeld ?_
 case y408 => (intro wq hSw; (try simp only [Two, Kn, Facts, CellsAt] at hSw); go_simp; try with_reducible rfl)
 try simp only [Act.put, a7, b7, c7]
 refine wpAnyH_ready (rs := [8]) (by kernel_rfl) (by simp) ?rdy409
 refine AllReadyH.cons (ga7 rfl) (fun K hK => ?stp409) AllReadyH.nil
 go_simp
 go_wp2_with fail
 skip
 go_wp2_with fail
 refine hK.out _ _ ?hSn409 (fun hHeld2 => ?rest409)
 case hSn409 => (first | with_reducible exact R0.drew | with_reducible exact hHeld.below hb4 | with_reducible exact hHeld.below hb5 | with_reducible exact hHeld.far2 of1 le1 _ _)
 clear hK K hHeld
 have hHeld := hHeld2
 clear hHeld2
 try simp only [Act.put, a7, b7, c7]
 refine w8 9 ?_ (ga7 rfl) (by kernel_rfl) (fun _ _ _ h => h) ⟨by rfl, ?y410⟩ hHeld ?_
 case y410 => (intro wq hSw; (try simp only [Two, Kn, Facts, CellsAt] at hSw); go_simp; try with_reducible rfl)
 try simp only [Act.put, a7, b7, c7]
 refine w8 10 ?_ (ga7 rfl) (by kernel_rfl) (fun _ _ _ h => h) ⟨by rfl, ?y411⟩ hHeld ?_
 case y411 => (intro wq hSw; (try simp only [Two, Kn, Facts, CellsAt] at hSw); go_simp; try with_reducible rfl)
 try simp only [Act.put, a7, b7, c7]
 refine wpAnyH_done (by kernel_rfl) ?fin400 _
 clear hHeld hb4 hb5 R0 N0 of1 CW BK
 go_wp2
 refine bodyPost_ret (v := .tuple #[nv rh rl, .bool t, .int .i64 ec]) (by simp [results, Tryz.results94, go_sem, World.cell?_setCell_same', World.cell?_setCell_other, *]) rfl ⟨rfl, by repeat (first | with_reducible exact Below.refl _ _ | with_reducible refine Below.drew ?_ | with_reducible refine Below.alloc ?_ (by first | omega | (simp <;> omega)) _ | with_reducible refine Below.setCell ?_ (by first | omega | (simp <;> omega)) _ | with_reducible refine Below.trans ?_ (Below.mono B5 (by first | omega | (simp <;> omega))))⟩


/-- The bits of a block. -/
theorem blk_bits {v : Bool} {n i W B C P : Nat} (hW : widthA v = (W : Nat)) (hc : cutB v n (B : Nat) (C : Nat) = true) (hi : i < 2 ^ (C - B)) (hP : P < W) : bitN (blkN v n (C : Nat) i) (W - 1 - P) = if B ≤ P ∧ P < C then bitN i (C - 1 - P) else bitN n (W - 1 - P) := by
 obtain ⟨k1, k2, k3, k4, k5⟩ := cutB_parts hc
 have e1 : behindP v (B : Nat) = W - B := by unfold behindP; omega
 have e2 : behindP v (C : Nat) = W - C := by unfold behindP; omega
 have e3 : ((C : Int) - (B : Int)).toNat = C - B := by omega
 have hm := (okP_parts k1).2
 rw [e1] at hm
 obtain ⟨q, hq⟩ := Nat.dvd_of_mod_eq_zero hm
 have s := blk_small hc (by rw [e3]; exact hi)
 rw [e1, e2] at s
 have p := pow_pos2 (W - C)
 have eq : blkN v n (C : Nat) i = n ||| 2 ^ (W - C) * i := by
  unfold blkN
  rw [e2, Nat.mul_comm i, hq, or_add _ _ _ (by rw [Nat.mul_comm]; omega)]
 rw [eq, bitN_test, bitN_test, bitN_test, Nat.testBit_or, Nat.testBit_two_pow_mul]
 have nt : ∀ j, j < W - B → n.testBit j = false := fun j hj => by
  rw [hq, Nat.testBit_two_pow_mul]
  simp; omega
 have it : ∀ j, C - B ≤ j → i.testBit j = false := fun j hj => Nat.testBit_lt_two_pow (Nat.lt_of_lt_of_le hi (Nat.pow_le_pow_right (by decide) hj))
 by_cases c1 : B ≤ P
 ·by_cases c2 : P < C
  ·rw [if_pos ⟨c1, c2⟩, nt _ (by omega), decide_eq_true (by omega), Bool.false_or, Bool.true_and, show W - 1 - P - (W - C) = C - 1 - P by omega]
  ·rw [if_neg (fun h => c2 h.2), decide_eq_false (by omega), Bool.false_and, Bool.or_false]
 ·rw [if_neg (fun h => c1 h.1)]
  by_cases c3 : W - C ≤ W - 1 - P
  ·rw [decide_eq_true c3, it _ (by omega), Bool.and_false, Bool.or_false]
  ·rw [decide_eq_false c3, Bool.false_and, Bool.or_false]

theorem rbk_start (w : World) (v : Bool) (h l b ih il : Int) : Kn w [(w.heap.size + 1 + 1, [.bool false, .int .u64 0, .int .u64 0, .int .i64 0], 28), (w.heap.size + 1, [.int .u64 ih, .int .u64 il], 24), (w.heap.size, [.bool v, .int .u64 h, .int .u64 l, .int .i64 b], 28)] (((w.alloc (.cells #[.bool v, .int .u64 h, .int .u64 l, .int .i64 b] 28)).alloc (.cells #[.int .u64 ih, .int .u64 il] 24)).alloc (.cells #[.bool false, .int .u64 0, .int .u64 0, .int .i64 0] 28)) :=
 (((Kn.nil w).push rfl).push (by simp)).push (by simp)

theorem BitRow.far {w : World} {g n a D : Nat} (x : BitRow w g n a) (hne : g ≠ D) (i : Nat) (u : Value) : BitRow (w.setCell ⟨D, i, none⟩ u) g n a :=
 ⟨by simpa [World.setCell] using x.1, fun j hj => by rw [World.cell?_of_block (w := w) (Below.heap_setCell _ _ _ _ hne)]; exact x.2 j hj⟩

theorem row_new {v : Bool} {W : Nat} (hW : widthA v = (W : Nat)) {h l : Int} {a : Nat} (ha : IsNum h l a) (w : World) :
  Calls Tryz.prog 90 #[av v h l] w fun e w' => ∃ g cap, e = .returned (.slice (some ⟨g, 0, none⟩) W cap) ∧ w.heap.size ≤ g ∧ W ≤ cap ∧ Rw w' g W (fun i => bitN a (W - 1 - i)) ∧ Below w.heap.size w w' := by
 cases v
 ·obtain rfl : W = 32 := by have : widthA false = 32 := rfl; omega
  refine (row_32 ha w).mono ?_
  rintro e w' ⟨g, cap, rfl, h0, h1, h2, h3, h4⟩
  exact ⟨g, cap, rfl, h0, h1, h3, h4⟩
 ·obtain rfl : W = 128 := by have : widthA true = 128 := rfl; omega
  refine (row_128 ha w).mono ?_
  rintro e w' ⟨g, cap, rfl, h0, h1, h2, h3, h4⟩
  exact ⟨g, cap, rfl, h0, h1, h3, h4⟩

set_option maxRecDepth 100000 in
set_option maxHeartbeats 3200000 in
theorem rbk_ok_t {v : Bool} {h l b k ih il rh rl ch cl : Int} {n i W B C : Nat} (hW : widthA v = (W : Nat)) (hB : b = (B : Int)) (hC : k = (C : Int)) (hp : IsNum h l n) (hi : IsNum ih il i) (hc : cutB v n b k = true) (hn : i < 2 ^ (k - b).toNat) (hr : IsNum rh rl (blkN v n k i)) (hct : CountIs (k - b).toNat ch cl true) (CM : Hid (∀ w', Calls Tryz.prog 133 #[nv ih il, nv ch cl] w' fun e w1 => ∃ q : Int, e = .returned (.int .i64 q) ∧ ¬ 0 ≤ q ∧ Below w'.heap.size w' w1)) (w : World) :
  Calls Tryz.prog 101 #[pv v h l b, .int .i64 k, nv ih il] w fun e w' => e = .returned (.tuple #[pv v rh rl k, .int .i64 0]) ∧ Below w.heap.size w w' := by
 have C1 : Hid (∀ w', Calls Tryz.prog 131 #[pv v h l b, .int .i64 k] w' fun e w1 => e = .returned (.bool true) ∧ Below w'.heap.size w' w1) := fun w' => hc ▸ rcuts_c hp w'
 obtain ⟨_, b0, b1, b2, _⟩ := cutB_parts hc
 have hW2 := width_le v
 have w128 : W ≤ 128 := by omega
 have N1 : Hid (∀ w', Calls Tryz.prog 132 #[.int .i64 (k - b)] w' fun e w1 => e = .returned (.tuple #[nv ch cl, .bool true]) ∧ Below w'.heap.size w' w1) := fun w' => count_is (K := (k - b).toNat) (by omega) hct w'
 have RO : Hid (∀ w', Calls Tryz.prog 90 #[av v h l] w' fun e w' => ∃ g cap, e = .returned (.slice (some ⟨g, 0, none⟩) W cap) ∧ _) := fun w' => row_new hW hp w'
 have BI : Hid (∀ w', Calls Tryz.prog 126 #[nv ih il] w' fun e w' => ∃ g cap, e = .returned (.slice (some ⟨g, 0, none⟩) 128 cap) ∧ _) := fun w' => bits_c hi w'
 have HH : Hid (W ≤ 128 ∧ b = (B : Int) ∧ k = (C : Int) ∧ B ≤ C ∧ C ≤ W ∧ (∀ P, P < W → bitN (blkN v n k i) (W - 1 - P) = if B ≤ P ∧ P < C then bitN i (C - 1 - P) else bitN n (W - 1 - P)) ∧ blkN v n k i < 2 ^ W ∧ IsNum rh rl (blkN v n k i)) := by
  refine ⟨w128, hB, hC, by omega, by omega, fun P hP => ?_, ?_, hr⟩
  ·subst hB hC
   exact blk_bits hW hc (by rw [show C - B = ((C : Int) - (B : Int)).toNat by omega]; exact hn) hP
  ·have o := (blk_ok hc hp.lt hn)
   have oa := (fitsB_parts (okP_parts o.1).1).1
   cases v
   ·obtain rfl : W = 32 := by have : widthA false = 32 := rfl; omega
    simpa [okA] using oa
   ·obtain rfl : W = 128 := by have : widthA true = 128 := rfl; omega
    simpa using o.2
 have hw1 : IntKind.i64.wrap (k - b) = k - b := by simp [IntKind.wrap, IntKind.bits, IntKind.signed]; omega
 have hw2 : IntKind.i64.wrap (k - 1) = k - 1 := by simp [IntKind.wrap, IntKind.bits, IntKind.signed]; omega
 have hw3 : Hid (∀ J : Int, 0 ≤ J → J < k - b → IntKind.i64.wrap (k - 1 - J) = k - 1 - J) := fun J j0 j1 => by simp [IntKind.wrap, IntKind.bits, IntKind.signed]; omega
 have bk : 0 ≤ b ∧ b ≤ k ∧ k ≤ 128 := ⟨b0, b1, by omega⟩
 have K := rbk_start w v h l b ih il
 clear hp hi hc hn b0 b1 b2 hW2 hct hW hr w128 hB hC
 go_enter Tryz.func101, Tryz.ntmps101
 go_wp2_with fail
 refine (C1.out _).mono ?_
 rintro e w1 ⟨rfl, hb⟩
 replace K := K.below hb
 have F := K.1
 simp only [Facts, CellsAt] at F
 clear hb C1
 go_wp2_with fail
 refine (N1.out _).mono ?_
 rintro e w2 ⟨rfl, hb⟩
 replace K := (K.below hb).push (b := w2.heap.size) (cs := [.int .u64 ch, .int .u64 cl]) (t := 24) (by simp)
 replace F := K.1
 simp only [Facts, CellsAt] at F
 clear hb N1
 (go_wp2_with fail; refine (CM.out _).mono ?_; rintro e w3 ⟨q, rfl, hq, hb⟩; replace K := K.below hb; replace F := K.1; simp only [Facts, CellsAt] at F; clear hb)
 go_wp2_with fail
 refine (RO.out _).mono ?_
 rintro e w4 ⟨g, cap, rfl, hg, hcap, hRw, hb⟩
 have LT := K.lts
 simp only [Lts] at LT
 have hg1 : w.heap.size + 1 + 1 < g ∧ w2.heap.size < g := by
  have := hb.size
  omega
 replace K := K.below hb
 replace F := K.1
 simp only [Facts, CellsAt] at F
 clear hb RO LT CM
 go_wp2_with fail
 refine (BI.out _).mono ?_
 rintro e w5 ⟨gx, capx, rfl, hgx, hBR, hb⟩
 have hne : gx ≠ g := by have := hRw.1; omega
 replace hRw := hRw.below hb
 replace K := (K.below hb).tail
 clear hb BI hgx F
 go_wp2_with fail
 go_loopw [12] (fun q wr => ∃ (j : Nat) (J : Int), q = .int .i64 J ∧ Hid (J = (j : Int)) ∧ 0 ≤ J ∧ J ≤ k - b ∧ Rw wr g W (fun P => if C - j ≤ P ∧ P < C then bitN i (C - 1 - P) else bitN n (W - 1 - P)) ∧ BitRow wr gx 128 i ∧ Kn w [(w.heap.size + 1 + 1, [.bool false, .int .u64 0, .int .u64 0, .int .i64 0], 28), (w.heap.size + 1, [.int .u64 ih, .int .u64 il], 24), (w.heap.size, [.bool v, .int .u64 h, .int .u64 l, .int .i64 b], 28)] wr) (fun q _ => (k - b - intOf q).toNat)
 case atStart => exact ⟨0, 0, rfl, by show _ = _; simp, by omega, by omega, hRw.congr (fun P _ => by rw [if_neg (by omega)]), hBR, K⟩
 case round =>
  clear hRw hBR K
  obtain ⟨j, J, rfl, HJ, J0, J1, hR, hX, K⟩ := hrel
  have F := K.1
  simp only [Facts, CellsAt] at F
  by_cases hlt : J < k - b
  ·obtain ⟨h128, hB, hC, hBC, hCW, _⟩ := HH.out
   have hJ := HJ.out
   have hw4 := hw3.out J J0 hlt
   have c1 := hX.2 J.toNat (by omega)
   obtain ⟨bb, hbb⟩ : ∃ bb : Int, bb = ((bitN i J.toNat : Nat) : Int) := ⟨_, rfl⟩
   rw [← hbb] at c1
   obtain ⟨M, hM⟩ : ∃ M : Int, M = k - 1 - J := ⟨_, rfl⟩
   have M0 : 0 ≤ M := by omega
   have M1 : M < (W : Int) := by omega
   have c2 := hR.2.1 M.toNat (by omega)
   have f2 := hR.2.2 M.toNat
   have J128 : J < 128 := by omega
   have nx : Hid (Rw (wr.setCell ⟨g, M.toNat, none⟩ (.int .i64 bb)) g W (fun P => if C - (j + 1) ≤ P ∧ P < C then bitN i (C - 1 - P) else bitN n (W - 1 - P))) := by
    show Rw _ _ _ _
    rw [hbb]
    refine (hR.put (t := bitN i J.toNat) (show M.toNat < W by omega)).congr (fun P hP => ?_)
    by_cases e : P = M.toNat
    ·subst e
     rw [if_pos rfl, if_pos (by omega)]
     congr 1
     omega
    ·rw [if_neg e]
     by_cases e2 : C - j ≤ P ∧ P < C
     ·rw [if_pos e2, if_pos (by omega)]
     ·rw [if_neg e2, if_neg (by omega)]
   have nX : Hid (BitRow (wr.setCell ⟨g, M.toNat, none⟩ (.int .i64 bb)) gx 128 i) := hX.far hne _ _
   have nK : Hid (Kn w [(w.heap.size + 1 + 1, [.bool false, .int .u64 0, .int .u64 0, .int .i64 0], 28), (w.heap.size + 1, [.int .u64 ih, .int .u64 il], 24), (w.heap.size, [.bool v, .int .u64 h, .int .u64 l, .int .i64 b], 28)] (wr.setCell ⟨g, M.toNat, none⟩ (.int .i64 bb))) := K.set (by simp only [Off]; repeat' (first | exact trivial | refine And.intro ?_ ?_ | omega)) (by omega) _ _
   rw [← hM] at hw4
   have hM2 : k - 1 - J = M := hM.symm
   have gl1 := hR.1
   have gl2 := hX.1
   clear h128 hB hC hBC hCW hJ hR hX K hbb hM
   go_wp2
   go_roundw
   case measure => simp [intOf]; omega
   case rel => exact ⟨j + 1, J + 1, rfl, by show _ = _; have := HJ.out; omega, by omega, by omega, nx.out, nX.out, nK.out⟩
  ·obtain rfl : J = k - b := by omega
   obtain ⟨h128, hB, hC, hBC, hCW, bits, lt, hr⟩ := HH.out
   have hJ := HJ.out
   have AD : Hid (Calls Tryz.prog 91 #[.bool v, .slice (some ⟨g, 0, none⟩) W cap] wr fun e w' => e = .returned (av v rh rl) ∧ Below wr.heap.size wr w') := by
    have := raddr_any v h128 lt g 0 cap wr hR.1 (fun P hP => by
     rw [Nat.zero_add, hR.2.1 P hP, bits P hP]
     show some (Value.int .i64 ((if C - j ≤ P ∧ P < C then bitN i (C - 1 - P) else bitN n (W - 1 - P) : Nat) : Int)) = _
     rw [show C - j = B by omega])
    refine this.mono ?_
    rintro e w' ⟨h', l', rfl, hn, hb⟩
    obtain ⟨rfl, rfl⟩ := hn.uniq hr
    exact ⟨rfl, hb⟩
   clear h128 hB hC hBC hCW bits lt hr hJ HJ HH hR hX
   go_wp2_with fail
   refine AD.out.mono ?_
   rintro e w6 ⟨rfl, hb⟩
   replace K := K.below hb
   obtain ⟨r0, r1, r2, r3, r4, r5, r6, r7, r8⟩ := K.2.1.1.four
   have B6 := K.bel
   clear hb AD K F
   go_wp2
   refine bodyPost_ret (v := .tuple #[pv v rh rl k, .int .i64 0]) (by simp [results, Tryz.results101, go_sem, World.cell?_setCell_same', World.cell?_setCell_other, *]) rfl ⟨rfl, by repeat (first | with_reducible exact Below.refl _ _ | with_reducible refine Below.drew ?_ | with_reducible refine Below.alloc ?_ (by first | omega | (simp <;> omega)) _ | with_reducible refine Below.setCell ?_ (by first | omega | (simp <;> omega)) _ | with_reducible refine Below.trans ?_ (Below.mono B6 (by first | omega | (simp <;> omega))))⟩

set_option maxRecDepth 100000 in
set_option maxHeartbeats 3200000 in
theorem rbk_ok_f {v : Bool} {h l b k ih il rh rl ch cl : Int} {n i W B C : Nat} (hW : widthA v = (W : Nat)) (hB : b = (B : Int)) (hC : k = (C : Int)) (hp : IsNum h l n) (hi : IsNum ih il i) (hc : cutB v n b k = true) (hn : i < 2 ^ (k - b).toNat) (hr : IsNum rh rl (blkN v n k i)) (hct : CountIs (k - b).toNat ch cl false) (CM : Hid (True)) (w : World) :
  Calls Tryz.prog 101 #[pv v h l b, .int .i64 k, nv ih il] w fun e w' => e = .returned (.tuple #[pv v rh rl k, .int .i64 0]) ∧ Below w.heap.size w w' := by
 have C1 : Hid (∀ w', Calls Tryz.prog 131 #[pv v h l b, .int .i64 k] w' fun e w1 => e = .returned (.bool true) ∧ Below w'.heap.size w' w1) := fun w' => hc ▸ rcuts_c hp w'
 obtain ⟨_, b0, b1, b2, _⟩ := cutB_parts hc
 have hW2 := width_le v
 have w128 : W ≤ 128 := by omega
 have N1 : Hid (∀ w', Calls Tryz.prog 132 #[.int .i64 (k - b)] w' fun e w1 => e = .returned (.tuple #[nv ch cl, .bool false]) ∧ Below w'.heap.size w' w1) := fun w' => count_is (K := (k - b).toNat) (by omega) hct w'
 have RO : Hid (∀ w', Calls Tryz.prog 90 #[av v h l] w' fun e w' => ∃ g cap, e = .returned (.slice (some ⟨g, 0, none⟩) W cap) ∧ _) := fun w' => row_new hW hp w'
 have BI : Hid (∀ w', Calls Tryz.prog 126 #[nv ih il] w' fun e w' => ∃ g cap, e = .returned (.slice (some ⟨g, 0, none⟩) 128 cap) ∧ _) := fun w' => bits_c hi w'
 have HH : Hid (W ≤ 128 ∧ b = (B : Int) ∧ k = (C : Int) ∧ B ≤ C ∧ C ≤ W ∧ (∀ P, P < W → bitN (blkN v n k i) (W - 1 - P) = if B ≤ P ∧ P < C then bitN i (C - 1 - P) else bitN n (W - 1 - P)) ∧ blkN v n k i < 2 ^ W ∧ IsNum rh rl (blkN v n k i)) := by
  refine ⟨w128, hB, hC, by omega, by omega, fun P hP => ?_, ?_, hr⟩
  ·subst hB hC
   exact blk_bits hW hc (by rw [show C - B = ((C : Int) - (B : Int)).toNat by omega]; exact hn) hP
  ·have o := (blk_ok hc hp.lt hn)
   have oa := (fitsB_parts (okP_parts o.1).1).1
   cases v
   ·obtain rfl : W = 32 := by have : widthA false = 32 := rfl; omega
    simpa [okA] using oa
   ·obtain rfl : W = 128 := by have : widthA true = 128 := rfl; omega
    simpa using o.2
 have hw1 : IntKind.i64.wrap (k - b) = k - b := by simp [IntKind.wrap, IntKind.bits, IntKind.signed]; omega
 have hw2 : IntKind.i64.wrap (k - 1) = k - 1 := by simp [IntKind.wrap, IntKind.bits, IntKind.signed]; omega
 have hw3 : Hid (∀ J : Int, 0 ≤ J → J < k - b → IntKind.i64.wrap (k - 1 - J) = k - 1 - J) := fun J j0 j1 => by simp [IntKind.wrap, IntKind.bits, IntKind.signed]; omega
 have bk : 0 ≤ b ∧ b ≤ k ∧ k ≤ 128 := ⟨b0, b1, by omega⟩
 have K := rbk_start w v h l b ih il
 clear hp hi hc hn b0 b1 b2 hW2 hct hW hr w128 hB hC
 go_enter Tryz.func101, Tryz.ntmps101
 go_wp2_with fail
 refine (C1.out _).mono ?_
 rintro e w1 ⟨rfl, hb⟩
 replace K := K.below hb
 have F := K.1
 simp only [Facts, CellsAt] at F
 clear hb C1
 go_wp2_with fail
 refine (N1.out _).mono ?_
 rintro e w2 ⟨rfl, hb⟩
 replace K := (K.below hb).push (b := w2.heap.size) (cs := [.int .u64 ch, .int .u64 cl]) (t := 24) (by simp)
 replace F := K.1
 simp only [Facts, CellsAt] at F
 clear hb N1
 skip
 go_wp2_with fail
 refine (RO.out _).mono ?_
 rintro e w4 ⟨g, cap, rfl, hg, hcap, hRw, hb⟩
 have LT := K.lts
 simp only [Lts] at LT
 have hg1 : w.heap.size + 1 + 1 < g ∧ w2.heap.size < g := by
  have := hb.size
  omega
 replace K := K.below hb
 replace F := K.1
 simp only [Facts, CellsAt] at F
 clear hb RO LT CM
 go_wp2_with fail
 refine (BI.out _).mono ?_
 rintro e w5 ⟨gx, capx, rfl, hgx, hBR, hb⟩
 have hne : gx ≠ g := by have := hRw.1; omega
 replace hRw := hRw.below hb
 replace K := (K.below hb).tail
 clear hb BI hgx F
 go_wp2_with fail
 go_loopw [12] (fun q wr => ∃ (j : Nat) (J : Int), q = .int .i64 J ∧ Hid (J = (j : Int)) ∧ 0 ≤ J ∧ J ≤ k - b ∧ Rw wr g W (fun P => if C - j ≤ P ∧ P < C then bitN i (C - 1 - P) else bitN n (W - 1 - P)) ∧ BitRow wr gx 128 i ∧ Kn w [(w.heap.size + 1 + 1, [.bool false, .int .u64 0, .int .u64 0, .int .i64 0], 28), (w.heap.size + 1, [.int .u64 ih, .int .u64 il], 24), (w.heap.size, [.bool v, .int .u64 h, .int .u64 l, .int .i64 b], 28)] wr) (fun q _ => (k - b - intOf q).toNat)
 case atStart => exact ⟨0, 0, rfl, by show _ = _; simp, by omega, by omega, hRw.congr (fun P _ => by rw [if_neg (by omega)]), hBR, K⟩
 case round =>
  clear hRw hBR K
  obtain ⟨j, J, rfl, HJ, J0, J1, hR, hX, K⟩ := hrel
  have F := K.1
  simp only [Facts, CellsAt] at F
  by_cases hlt : J < k - b
  ·obtain ⟨h128, hB, hC, hBC, hCW, _⟩ := HH.out
   have hJ := HJ.out
   have hw4 := hw3.out J J0 hlt
   have c1 := hX.2 J.toNat (by omega)
   obtain ⟨bb, hbb⟩ : ∃ bb : Int, bb = ((bitN i J.toNat : Nat) : Int) := ⟨_, rfl⟩
   rw [← hbb] at c1
   obtain ⟨M, hM⟩ : ∃ M : Int, M = k - 1 - J := ⟨_, rfl⟩
   have M0 : 0 ≤ M := by omega
   have M1 : M < (W : Int) := by omega
   have c2 := hR.2.1 M.toNat (by omega)
   have f2 := hR.2.2 M.toNat
   have J128 : J < 128 := by omega
   have nx : Hid (Rw (wr.setCell ⟨g, M.toNat, none⟩ (.int .i64 bb)) g W (fun P => if C - (j + 1) ≤ P ∧ P < C then bitN i (C - 1 - P) else bitN n (W - 1 - P))) := by
    show Rw _ _ _ _
    rw [hbb]
    refine (hR.put (t := bitN i J.toNat) (show M.toNat < W by omega)).congr (fun P hP => ?_)
    by_cases e : P = M.toNat
    ·subst e
     rw [if_pos rfl, if_pos (by omega)]
     congr 1
     omega
    ·rw [if_neg e]
     by_cases e2 : C - j ≤ P ∧ P < C
     ·rw [if_pos e2, if_pos (by omega)]
     ·rw [if_neg e2, if_neg (by omega)]
   have nX : Hid (BitRow (wr.setCell ⟨g, M.toNat, none⟩ (.int .i64 bb)) gx 128 i) := hX.far hne _ _
   have nK : Hid (Kn w [(w.heap.size + 1 + 1, [.bool false, .int .u64 0, .int .u64 0, .int .i64 0], 28), (w.heap.size + 1, [.int .u64 ih, .int .u64 il], 24), (w.heap.size, [.bool v, .int .u64 h, .int .u64 l, .int .i64 b], 28)] (wr.setCell ⟨g, M.toNat, none⟩ (.int .i64 bb))) := K.set (by simp only [Off]; repeat' (first | exact trivial | refine And.intro ?_ ?_ | omega)) (by omega) _ _
   rw [← hM] at hw4
   have hM2 : k - 1 - J = M := hM.symm
   have gl1 := hR.1
   have gl2 := hX.1
   clear h128 hB hC hBC hCW hJ hR hX K hbb hM
   go_wp2
   go_roundw
   case measure => simp [intOf]; omega
   case rel => exact ⟨j + 1, J + 1, rfl, by show _ = _; have := HJ.out; omega, by omega, by omega, nx.out, nX.out, nK.out⟩
  ·obtain rfl : J = k - b := by omega
   obtain ⟨h128, hB, hC, hBC, hCW, bits, lt, hr⟩ := HH.out
   have hJ := HJ.out
   have AD : Hid (Calls Tryz.prog 91 #[.bool v, .slice (some ⟨g, 0, none⟩) W cap] wr fun e w' => e = .returned (av v rh rl) ∧ Below wr.heap.size wr w') := by
    have := raddr_any v h128 lt g 0 cap wr hR.1 (fun P hP => by
     rw [Nat.zero_add, hR.2.1 P hP, bits P hP]
     show some (Value.int .i64 ((if C - j ≤ P ∧ P < C then bitN i (C - 1 - P) else bitN n (W - 1 - P) : Nat) : Int)) = _
     rw [show C - j = B by omega])
    refine this.mono ?_
    rintro e w' ⟨h', l', rfl, hn, hb⟩
    obtain ⟨rfl, rfl⟩ := hn.uniq hr
    exact ⟨rfl, hb⟩
   clear h128 hB hC hBC hCW bits lt hr hJ HJ HH hR hX
   go_wp2_with fail
   refine AD.out.mono ?_
   rintro e w6 ⟨rfl, hb⟩
   replace K := K.below hb
   obtain ⟨r0, r1, r2, r3, r4, r5, r6, r7, r8⟩ := K.2.1.1.four
   have B6 := K.bel
   clear hb AD K F
   go_wp2
   refine bodyPost_ret (v := .tuple #[pv v rh rl k, .int .i64 0]) (by simp [results, Tryz.results101, go_sem, World.cell?_setCell_same', World.cell?_setCell_other, *]) rfl ⟨rfl, by repeat (first | with_reducible exact Below.refl _ _ | with_reducible refine Below.drew ?_ | with_reducible refine Below.alloc ?_ (by first | omega | (simp <;> omega)) _ | with_reducible refine Below.setCell ?_ (by first | omega | (simp <;> omega)) _ | with_reducible refine Below.trans ?_ (Below.mono B6 (by first | omega | (simp <;> omega))))⟩

theorem rbk_ok {v : Bool} {h l b k ih il rh rl : Int} {n i : Nat} (hp : IsNum h l n) (hi : IsNum ih il i) (hc : cutB v n b k = true) (hn : i < 2 ^ (k - b).toNat) (hr : IsNum rh rl (blkN v n k i)) (w : World) :
  Calls Tryz.prog 101 #[pv v h l b, .int .i64 k, nv ih il] w fun e w' => e = .returned (.tuple #[pv v rh rl k, .int .i64 0]) ∧ Below w.heap.size w w' := by
 obtain ⟨_, b0, b1, b2, _⟩ := cutB_parts hc
 have hW2 := width_le v
 obtain ⟨W, hW⟩ : ∃ W : Nat, widthA v = (W : Nat) := ⟨(widthA v).toNat, by omega⟩
 obtain ⟨ch, cl, t, hct⟩ := countIs_ex (K := (k - b).toNat) (by omega)
 obtain ⟨B, hB⟩ : ∃ B : Nat, b = (B : Int) := ⟨b.toNat, by omega⟩
 obtain ⟨C, hC⟩ : ∃ C : Nat, k = (C : Int) := ⟨k.toNat, by omega⟩
 cases t
 ·exact rbk_ok_f hW hB hC hp hi hc hn hr hct trivial w
 ·refine rbk_ok_t hW hB hC hp hi hc hn hr hct (fun w' => ?_) w
  obtain ⟨_, _, cn⟩ : (k - b).toNat < 128 ∧ true = true ∧ IsNum ch cl (2 ^ (k - b).toNat) := by
   rcases hct with q | ⟨_, q, _⟩
   ·exact q
   ·cases q
  refine (rcmp_c hi cn w').mono ?_
  rintro e w1 ⟨q, rfl, hq, hb⟩
  refine ⟨q, rfl, ?_, hb⟩
  rw [hq.out, cmpI_lt (by omega)]
  decide
end Go.Proofs.YtgbpnekinbdadaaGreatDoor
