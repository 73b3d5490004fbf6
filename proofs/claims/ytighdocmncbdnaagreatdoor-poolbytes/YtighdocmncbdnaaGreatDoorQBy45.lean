/-
  Texts BmO4 of the proof.
-/
import Derived.Deep.RegionHeld
import Derived.Test.YtighdocmncbdnaaGreatDoorQBy43

namespace Go.Proofs.YtighdocmncbdnaaGreatDoor
open Go.ChangeShapes Go.WideShapes Go.ChangeAt Go.RowKit
set_option linter.unusedVariables false
set_option linter.unusedSimpArgs false

theorem read_start {s : ByteArray} {a g : Nat} {W : World} (h : MapAt W a g (toldT s) (List.replicate ((toldT s + 63) / 64) 0)) : ReadI s a g 0 W := by
  refine ⟨_, h, fun p => ?_⟩
  unfold bitL
  rw [List.getD_eq_getElem?_getD, List.getElem?_replicate]
  split <;> simp

theorem ReadI.drew {s : ByteArray} {a g k : Nat} {W : World} (h : ReadI s a g k W) : ReadI s a g k W.drew := by
  obtain ⟨ws, hm, hb⟩ := h
  exact ⟨ws, ⟨hm.head, hm.row, hm.len, hm.small, hm.word⟩, hb⟩

theorem read_end {s : ByteArray} {a g nb : Nat} {W : World} (hs : s.size = 4 + nb) (h : ReadI s a g nb W) : ∃ ws, MapAt W a g (toldT s) ws ∧ ∀ p, bitL ws p = bitS s p := by
  obtain ⟨ws, hm, hb⟩ := h
  refine ⟨ws, hm, fun p => ?_⟩
  rw [hb]
  by_cases hp : p < 8 * nb
  · rw [decide_eq_true hp, Bool.true_and]
  · rw [decide_eq_false hp, Bool.false_and]
    unfold bitS
    rw [sb_far s _ (by omega)]
    simp

set_option maxRecDepth 100000 in
set_option maxHeartbeats 4000000 in
theorem ofb_main (s : ByteArray) (hT : toldT s ≤ 65536) (hs : s.size = bytesN (toldT s)) (over : Bool) (hov : over = true ↔ ¬ ∀ p, toldT s ≤ p → bitS s p = false) (w : World) :
    Calls Tryz.prog 84 #[.string s] w fun e w' => e = .returned (.tuple #[.pointer (if over then none else some ⟨w.heap.size + 1, 0, none⟩), .int .i64 (if over then 4 else 0)]) ∧ (over = false → MapB w' (w.heap.size + 1) w.heap.size (toldT s) (bitS s)) ∧ Below w.heap.size w w' := by
  obtain ⟨nb, hnb⟩ : ∃ nb, (toldT s + 7) / 8 = nb := ⟨_, rfl⟩
  have hsz : s.size = 4 + nb := by rw [hs]; unfold bytesN; rw [hnb]
  have hnl : nb ≤ 8192 := by omega
  have h1 : ¬ (s.size : Int) < 4 := by omega
  have TC := hide (told_c s (by omega))
  have BF := hide (fun w => bytesFor_c (toldT s) hT w)
  rw [hnb] at BF
  have NW := hide (fun w => new_w (toldT s) hT w)
  have OW := hide (@over_word s hs)
  have HV := hide hov
  have HNB := hide hnb
  have RI := hide (fun (a g : Nat) (W : World) => @read_start s a g W)
  have RE := hide (fun (a g : Nat) (W : World) => @read_end s a g nb W hsz)
  have RB := hide (fun (ws : List Nat) (k : Nat) => @read_bits s ws k)
  obtain ⟨T, eT⟩ : ∃ T, toldT s = T := ⟨_, rfl⟩
  have HS := hide hsz
  have h3 : ((s.size : Int) != 4 + (nb : Int)) = false := by simp; omega
  have h2 : ¬ (T : Int) > 65536 := by omega
  have HT := hide eT
  rw [eT] at TC BF NW hT HNB
  clear hov hs hnb eT
  go_enter Tryz.func84, Tryz.ntmps84
  go_wp2_with fail
  refine (TC.out _).mono ?_
  rintro e w1 ⟨rfl, rfl⟩
  clear TC
  go_wp2_with fail
  refine (BF.out _).mono ?_
  rintro e w2 ⟨rfl, rfl⟩
  go_wp2_with fail
  refine (NW.out _).mono ?_
  rintro e w3 ⟨rfl, hM, hb, hs3⟩
  have M3 : Hid (ReadI s (w2.heap.size + 1) w2.heap.size 0 w3) := RI.out _ _ _ (by rw [HT.out]; exact hM)
  have c0 := hM.head.cell 0
  simp at c0
  have hl3 : w2.heap.size + 1 < w3.heap.size := by omega
  have B3 := hide hb
  clear hM hb hs3 NW RI
  go_wp2_with fail
  refine (BF.out _).mono ?_
  rintro e w4 ⟨rfl, rfl⟩
  clear BF
  go_wp2_with fail
  go_loopw [35] (fun t wr => ∃ k : Nat, k ≤ nb ∧ t = .int .i64 k ∧ Hid (ReadI s (w2.heap.size + 1) w2.heap.size k wr) ∧ Hid (Below w2.heap.size w2 wr)) (fun t _ => nb - (intOf t).toNat)
  case atStart => exact ⟨0, by omega, rfl, M3, B3⟩
  case round =>
    clear M3 B3 c0
    obtain ⟨k, hk, rfl, hR, hB⟩ := hrel
    by_cases hlt : k < nb
    · have hlt' : (k : Int) < nb := by omega
      obtain ⟨ws, hm, hbits⟩ := hR.out
      have hlen := hm.len
      have hnb := HNB.out
      rw [HT.out] at hlen
      have hkl : k / 8 < ws.length := by omega
      obtain ⟨hx, hxl⟩ := hm.get hkl
      have x1 := (hm.row.cell (k / 8)).trans hx
      have xz := hm.row.frozen (k / 8)
      have s1 := hm.head.cell 1
      simp only [List.getElem?_toArray, List.getElem?_cons_succ, List.getElem?_cons_zero] at s1
      have hne := hm.head.ne hm.row (by decide)
      obtain ⟨r1, r2, r3, r4⟩ := read_or (r := k % 8) hxl (sb_lt s (4 + k)) (by omega)
      have nx : Hid (ReadI s (w2.heap.size + 1) w2.heap.size (k + 1) (wr.setCell ⟨w2.heap.size, k / 8, none⟩ (.int .u64 ((ws.getD (k / 8) 0 ||| 2 ^ (8 * (k % 8)) * sb s (4 + k) : Nat) : Int)))) := ⟨_, hm.put hne r4, RB.out ws k hkl hbits⟩
      have nbl : Hid (∀ v, Below w2.heap.size w2 (wr.setCell ⟨w2.heap.size, k / 8, none⟩ v)) := fun v => hB.out.setCell (p := ⟨w2.heap.size, k / 8, none⟩) (Nat.le_refl _) v
      obtain ⟨ul, hul⟩ : ∃ ul, ws.length = ul := ⟨_, rfl⟩
      rw [hul] at s1 hkl
      obtain ⟨c, hc⟩ : ∃ c, sb s (4 + k) = c := ⟨_, rfl⟩
      obtain ⟨x, hxe⟩ : ∃ x, ws.getD (k / 8) 0 = x := ⟨_, rfl⟩
      have hcl : c < 256 := by rw [← hc]; exact sb_lt s _
      have hbk : 4 + k < s.size := by rw [HS.out]; omega
      have bg : (s[4 + k]'hbk).toNat = c := by rw [sb_get s (4 + k) hbk, hc]
      have hbk' : 4 + (k : Int) < (s.size : Int) := by omega
      rw [hc] at r1 r2 r3 r4 nx
      rw [hxe] at x1 r3 nx hxl r4
      obtain ⟨sh, hsh⟩ : ∃ sh, 2 ^ (8 * (k % 8)) * c = sh := ⟨_, rfl⟩
      rw [hsh] at r1 r2 r3 r4 nx
      obtain ⟨y, hy⟩ : ∃ y, x ||| sh = y := ⟨_, rfl⟩
      rw [hy] at r3 r4 nx
      have kl : (k : Int) / 8 < ul := by omega
      have kl2 : ul ≤ 1024 := by omega
      have w0' : IntKind.i64.wrap ((k : Int) / 8) = (k : Int) / 8 := by rw [IntKind.wrap_i64]; omega
      have w0'' : 0 ≤ (k : Int) / 8 := by omega
      have w2'' : 0 ≤ 8 * ((k : Int) % 8) := by omega
      have w3'' : 0 ≤ 4 + (k : Int) := by omega
      have w1' : IntKind.i64.wrap (4 + (k : Int)) = 4 + (k : Int) := by rw [IntKind.wrap_i64]; omega
      have w2' : IntKind.i64.wrap (8 * ((k : Int) % 8)) = 8 * ((k : Int) % 8) := by rw [IntKind.wrap_i64]; omega
      have hbz : (4 + (k : Int)).toNat < s.size := by omega
      have bg2 : ((s[(4 + (k : Int)).toNat]'hbz).toNat : Int) = (c : Int) := by rw [sb_get s _ hbz, show (4 + (k : Int)).toNat = 4 + k by omega, ← bg, sb_get s (4 + k) hbk]
      have wu : IntKind.u64.wrap (c : Int) = (c : Int) := by rw [IntKind.wrap_u64]; omega
      have tm : ((k : Int)).tmod 8 = (k : Int) % 8 := Int.tmod_eq_emod_of_nonneg (by omega)
      have ke : ((k : Int) / 8).toNat = k / 8 := by omega
      have r1' : IntKind.u64.wrap ((c : Int) * 2 ^ (8 * ((k : Int) % 8)).toNat) = (sh : Int) := by rw [show (8 * ((k : Int) % 8)).toNat = 8 * (k % 8) by omega]; exact r1
      have x1d : wr.drew.cell? ⟨w2.heap.size, k / 8, none⟩ = some (.int .u64 x) := x1
      have xzd : wr.drew.frozen? ⟨w2.heap.size, k / 8, none⟩ = false := xz
      have hne2 : (⟨w2.heap.size, k / 8, none⟩ : Addr).block ≠ (⟨w2.heap.size + 1, 1, none⟩ : Addr).block := by show w2.heap.size ≠ w2.heap.size + 1; omega
      have S0 : OH (w2.heap.size + 1) w2.heap.size ul wr := s1
      clear bg
      clear hR hm hbits hlen hnb hx hne hul hc hxe hsh hy hB RB RE OW
      go_upto_region 10 with fail
      refine wp_region_held_drew (S := (OH (w2.heap.size + 1) w2.heap.size ul)) (by kernel_rfl) ?hS100 (fun hHeld => ?rest100)
      case hS100 => (first | exact S0 | with_reducible exact hHeld | exact (World.cell?_setCell_far _ _ _ _ hne2).trans hHeld)
      refine wpAnyH_take (i := 0) (oi := _) (v := ?v101) (List.getElem?_toArray.trans rfl) (by kernel_rfl) (by kernel_rfl) (by kernel_rfl) (fun _ _ _ h => h) (Or.inl ⟨by rfl, ?hy101⟩) (by assumption) ?rest101
      case hy101 => (intro wq hSw; (try simp only [OH] at hSw); go_simp; try with_reducible rfl)
      try simp only [Act.put, List.setIfInBounds_toArray, List.set_cons_zero, List.set_cons_succ]
      refine wpAnyH_take (i := 1) (oi := _) (v := ?v102) (List.getElem?_toArray.trans rfl) (by kernel_rfl) (by kernel_rfl) (by kernel_rfl) (fun _ _ _ h => h) (Or.inl ⟨by rfl, ?hy102⟩) (by assumption) ?rest102
      case hy102 => (intro wq hSw; (try simp only [OH] at hSw); go_simp; try with_reducible rfl)
      try simp only [Act.put, List.setIfInBounds_toArray, List.set_cons_zero, List.set_cons_succ]
      refine wpAnyH_take (i := 2) (oi := _) (v := ?v103) (List.getElem?_toArray.trans rfl) (by kernel_rfl) (by kernel_rfl) (by kernel_rfl) (fun _ _ _ h => h) (Or.inl ⟨by rfl, ?hy103⟩) (by assumption) ?rest103
      case hy103 => (intro wq hSw; (try simp only [OH] at hSw); go_simp; try with_reducible rfl)
      try simp only [Act.put, List.setIfInBounds_toArray, List.set_cons_zero, List.set_cons_succ]
      refine wpAnyH_take (i := 3) (oi := _) (v := ?v104) (List.getElem?_toArray.trans rfl) (by kernel_rfl) (by kernel_rfl) (by kernel_rfl) (fun _ _ _ h => h) (Or.inl ⟨by rfl, ?hy104⟩) (by assumption) ?rest104
      case hy104 => (intro wq hSw; (try simp only [OH] at hSw); go_simp; try with_reducible rfl)
      try simp only [Act.put, List.setIfInBounds_toArray, List.set_cons_zero, List.set_cons_succ]
      refine wpAnyH_take (i := 4) (oi := _) (v := ?v105) (List.getElem?_toArray.trans rfl) (by kernel_rfl) (by kernel_rfl) (by kernel_rfl) (fun _ _ _ h => h) (Or.inl ⟨by rfl, ?hy105⟩) (by assumption) ?rest105
      case hy105 => (intro wq hSw; (try simp only [OH] at hSw); go_simp; try with_reducible rfl)
      try simp only [Act.put, List.setIfInBounds_toArray, List.set_cons_zero, List.set_cons_succ]
      refine wpAnyH_take (i := 5) (oi := _) (v := ?v106) (List.getElem?_toArray.trans rfl) (by kernel_rfl) (by kernel_rfl) (by kernel_rfl) (fun _ _ _ h => h) (Or.inl ⟨by rfl, ?hy106⟩) (by assumption) ?rest106
      case hy106 => (intro wq hSw; (try simp only [OH] at hSw); go_simp; try with_reducible rfl)
      try simp only [Act.put, List.setIfInBounds_toArray, List.set_cons_zero, List.set_cons_succ]
      refine wpAnyH_take (i := 6) (oi := _) (v := ?v107) (List.getElem?_toArray.trans rfl) (by kernel_rfl) (by kernel_rfl) (by kernel_rfl) (fun _ _ _ h => h) (Or.inl ⟨by rfl, ?hy107⟩) (by assumption) ?rest107
      case hy107 => (intro wq hSw; (try simp only [OH] at hSw); go_simp; try with_reducible rfl)
      try simp only [Act.put, List.setIfInBounds_toArray, List.set_cons_zero, List.set_cons_succ]
      refine wpAnyH_take (i := 8) (oi := _) (v := ?v108) (List.getElem?_toArray.trans rfl) (by kernel_rfl) (by kernel_rfl) (by kernel_rfl) (fun _ _ _ h => h) (Or.inl ⟨by rfl, ?hy108⟩) (by assumption) ?rest108
      case hy108 => (intro wq hSw; (try simp only [OH] at hSw); go_simp; try with_reducible rfl)
      try simp only [Act.put, List.setIfInBounds_toArray, List.set_cons_zero, List.set_cons_succ]
      refine wpAnyH_take (i := 9) (oi := _) (v := ?v109) (List.getElem?_toArray.trans rfl) (by kernel_rfl) (by kernel_rfl) (by kernel_rfl) (fun _ _ _ h => h) (Or.inl ⟨by rfl, ?hy109⟩) (by assumption) ?rest109
      case hy109 => (intro wq hSw; (try simp only [OH] at hSw); go_simp; try with_reducible rfl)
      try simp only [Act.put, List.setIfInBounds_toArray, List.set_cons_zero, List.set_cons_succ]
      refine wpAnyH_take (i := 10) (oi := _) (v := ?v110) (List.getElem?_toArray.trans rfl) (by kernel_rfl) (by kernel_rfl) (by kernel_rfl) (fun _ _ _ h => h) (Or.inl ⟨by rfl, ?hy110⟩) (by assumption) ?rest110
      case hy110 => (intro wq hSw; (try simp only [OH] at hSw); go_simp; try with_reducible rfl)
      try simp only [Act.put, List.setIfInBounds_toArray, List.set_cons_zero, List.set_cons_succ]
      refine wpAnyH_take (i := 11) (oi := _) (v := ?v111) (List.getElem?_toArray.trans rfl) (by kernel_rfl) (by kernel_rfl) (by kernel_rfl) (fun _ _ _ h => h) (Or.inl ⟨by rfl, ?hy111⟩) (by assumption) ?rest111
      case hy111 => (intro wq hSw; (try simp only [OH] at hSw); go_simp; try with_reducible rfl)
      try simp only [Act.put, List.setIfInBounds_toArray, List.set_cons_zero, List.set_cons_succ]
      refine wpAnyH_take (i := 12) (oi := _) (v := ?v112) (List.getElem?_toArray.trans rfl) (by kernel_rfl) (by kernel_rfl) (by kernel_rfl) (fun _ _ _ h => h) (Or.inl ⟨by rfl, ?hy112⟩) (by assumption) ?rest112
      case hy112 => (intro wq hSw; (try simp only [OH] at hSw); go_simp; try with_reducible rfl)
      try simp only [Act.put, List.setIfInBounds_toArray, List.set_cons_zero, List.set_cons_succ]
      refine wpAnyH_take (i := 13) (oi := _) (v := ?v113) (List.getElem?_toArray.trans rfl) (by kernel_rfl) (by kernel_rfl) (by kernel_rfl) (fun _ _ _ h => h) (Or.inl ⟨by rfl, ?hy113⟩) (by assumption) ?rest113
      case hy113 => (intro wq hSw; (try simp only [OH] at hSw); go_simp; try with_reducible rfl)
      try simp only [Act.put, List.setIfInBounds_toArray, List.set_cons_zero, List.set_cons_succ]
      refine wpAnyH_take (i := 14) (oi := _) (v := ?v114) (List.getElem?_toArray.trans rfl) (by kernel_rfl) (by kernel_rfl) (by kernel_rfl) (fun _ _ _ h => h) (Or.inl ⟨by rfl, ?hy114⟩) (by assumption) ?rest114
      case hy114 => (intro wq hSw; (try simp only [OH] at hSw); go_simp; try with_reducible rfl)
      try simp only [Act.put, List.setIfInBounds_toArray, List.set_cons_zero, List.set_cons_succ]
      refine wpAnyH_take (i := 15) (oi := _) (v := ?v115) (List.getElem?_toArray.trans rfl) (by kernel_rfl) (by kernel_rfl) (by kernel_rfl) (fun _ _ _ h => h) (Or.inl ⟨by rfl, ?hy115⟩) (by assumption) ?rest115
      case hy115 => (intro wq hSw; (try simp only [OH] at hSw); go_simp; try with_reducible rfl)
      try simp only [Act.put, List.setIfInBounds_toArray, List.set_cons_zero, List.set_cons_succ]
      refine wpAnyH_take (i := 16) (oi := _) (v := ?v116) (List.getElem?_toArray.trans rfl) (by kernel_rfl) (by kernel_rfl) (by kernel_rfl) (fun _ _ _ h => h) (Or.inl ⟨by rfl, ?hy116⟩) (by assumption) ?rest116
      case hy116 => (intro wq hSw; (try simp only [OH] at hSw); go_simp; try with_reducible rfl)
      try simp only [Act.put, List.setIfInBounds_toArray, List.set_cons_zero, List.set_cons_succ]
      refine wpAnyH_ready (rs := [7]) (by kernel_rfl) (by simp) ?rdy117
      refine AllReadyH.cons (List.getElem?_toArray.trans rfl) (fun K hK => ?stp117) AllReadyH.nil
      go_simp
      go_wp2_with fail
      skip
      go_wp2_with fail
      refine hK.out _ _ ?hSn117 (fun hHeld2 => ?rest117)
      case hSn117 => (first | exact S0 | with_reducible exact hHeld | exact (World.cell?_setCell_far _ _ _ _ hne2).trans hHeld)
      clear hK K hHeld
      have hHeld := hHeld2
      clear hHeld2
      try simp only [Act.put, List.setIfInBounds_toArray, List.set_cons_zero, List.set_cons_succ]
      refine wpAnyH_take (i := 17) (oi := _) (v := ?v118) (List.getElem?_toArray.trans rfl) (by kernel_rfl) (by kernel_rfl) (by kernel_rfl) (fun _ _ _ h => h) (Or.inl ⟨by rfl, ?hy118⟩) (by assumption) ?rest118
      case hy118 => (intro wq hSw; (try simp only [OH] at hSw); go_simp; try with_reducible rfl)
      try simp only [Act.put, List.setIfInBounds_toArray, List.set_cons_zero, List.set_cons_succ]
      refine wpAnyH_take (i := 18) (oi := _) (v := ?v119) (List.getElem?_toArray.trans rfl) (by kernel_rfl) (by kernel_rfl) (by kernel_rfl) (fun _ _ _ h => h) (Or.inl ⟨by rfl, ?hy119⟩) (by assumption) ?rest119
      case hy119 => (intro wq hSw; (try simp only [OH] at hSw); go_simp; try with_reducible rfl)
      try simp only [Act.put, List.setIfInBounds_toArray, List.set_cons_zero, List.set_cons_succ]
      refine wpAnyH_ready (rs := [19]) (by kernel_rfl) (by simp) ?rdy120
      refine AllReadyH.cons (List.getElem?_toArray.trans rfl) (fun K hK => ?stp120) AllReadyH.nil
      go_simp
      go_wp2_with fail
      skip
      go_wp2_with fail
      refine hK.out _ _ ?hSn120 (fun hHeld2 => ?rest120)
      case hSn120 => (first | exact S0 | with_reducible exact hHeld | exact (World.cell?_setCell_far _ _ _ _ hne2).trans hHeld)
      clear hK K hHeld
      have hHeld := hHeld2
      clear hHeld2
      try simp only [Act.put, List.setIfInBounds_toArray, List.set_cons_zero, List.set_cons_succ]
      refine wpAnyH_done (by kernel_rfl) ?fin100 _
      clear S0 s1 x1 x1d xz xzd r1 r1' r2 r3 r4 bg2 wu tm w0' w0'' w1' w2' w2'' w3'' hHeld
      go_wp2
      go_roundw
      case measure => simp [intOf]; omega
      case rel => exact ⟨k + 1, by omega, by go_num, nx.out.drew, (nbl.out _).drew⟩
    · obtain rfl : k = nb := by omega
      obtain ⟨ws, hm, hbits⟩ := RE.out _ _ _ hR.out
      have hlen := hm.len
      have c0 := hm.head.cell 0
      have c1 := hm.head.cell 1
      simp only [List.getElem?_toArray, List.getElem?_cons_succ, List.getElem?_cons_zero] at c0 c1
      rw [HT.out] at c0 hlen
      have hnbT := HNB.out
      have HX : Hid (Calls Tryz.prog 125 #[.pointer (some ⟨w2.heap.size + 1, 0, none⟩)] wr fun e W' => e = .returned (.bool over) ∧ Below wr.heap.size wr W') := by
        by_cases h0 : T % 64 = 0
        · have ho : over = false := by
            cases over
            · rfl
            · exfalso
              refine (HV.out.1 rfl) (fun p hp => ?_)
              rw [HT.out] at hp
              unfold bitS
              rw [sb_far s _ (by rw [HS.out]; omega)]
              simp
          rw [ho]
          exact ones_no _ T wr hT h0 c0
        · obtain ⟨m, hmm⟩ : ∃ m, ws.length = m + 1 := ⟨ws.length - 1, by omega⟩
          have em : m = T / 64 := by omega
          obtain ⟨hx, hxl⟩ := hm.get (i := m) (by omega)
          rw [hmm] at c1
          have ov := OW.out (by rw [HT.out]; exact h0) (ws.getD m 0) (fun j hj => by rw [HT.out, ← em, ← hbits, bitL_at hj]) hxl
          rw [HT.out] at ov
          refine ones_yes _ _ T m (ws.getD m 0) over wr hT h0 (by omega) c0 c1 ((hm.row.cell m).trans hx) ?_
          have e2 : ((ws.getD m 0 : Nat) : Int) / 2 ^ (T % 64) = ((ws.getD m 0 / 2 ^ (T % 64) : Nat) : Int) := by
            have e3 : (2 : Int) ^ (T % 64) = ((2 ^ (T % 64) : Nat) : Int) := by rw [Int.natCast_pow]; rfl
            rw [e3]; rfl
          rw [e2]
          have hv := HV.out
          rw [HT.out] at hv
          generalize ws.getD m 0 / 2 ^ (T % 64) = z at *
          rw [← hv] at ov
          cases over
          · have : z = 0 := by
              apply Classical.byContradiction
              intro hz
              exact Bool.noConfusion (ov.1 hz)
            subst this; rfl
          · have : z ≠ 0 := ov.2 rfl
            simp
            omega
      have MB : Hid (over = false → MapB wr (w2.heap.size + 1) w2.heap.size (toldT s) (bitS s)) := fun ho => ⟨⟨ws, hm, hbits⟩, fun p hp => by
        apply Classical.byContradiction
        intro hc
        have : over = true := HV.out.2 (fun hall => hc (hall p hp))
        rw [ho] at this
        cases this⟩
      clear hm hbits hlen c0 c1 hnbT hR RE RB OW HV
      cases over
      · go_wp2_with fail
        refine HX.out.mono ?_
        rintro e w5 ⟨rfl, hb⟩
        have M5 := hide ((MB.out (by first | exact rfl | exact trivial)).below hb)
        have B5 := hide (next_bel hB.out hb)
        clear HX MB hb hB
        go_wp2_with fail
        go_ret2
        exact ⟨rfl, M5.out, B5.out⟩
      · go_wp2_with fail
        refine HX.out.mono ?_
        rintro e w5 ⟨rfl, hb⟩
        have B5 := hide (next_bel hB.out hb)
        clear HX MB hb hB
        go_wp2_with fail
        go_ret2
        exact ⟨rfl, B5.out⟩

/-- OfBytes, all strings that the law tries. -/
theorem ofb_c (s : ByteArray) (hz : s.size ≤ 9000) (w : World) : Calls Tryz.prog 84 #[.string s] w fun e w' =>
    (okS s ∧ e = .returned (.tuple #[.pointer (some ⟨w.heap.size + 1, 0, none⟩), .int .i64 0]) ∧ MapB w' (w.heap.size + 1) w.heap.size (toldT s) (bitS s) ∧ Below w.heap.size w w') ∨
    (¬ okS s ∧ e = .returned (.tuple #[.pointer none, .int .i64 4]) ∧ Below w.heap.size w w') := by
  by_cases h4 : s.size < 4
  · refine (ofb_short s h4 w).mono ?_
    rintro e w' ⟨rfl, hb⟩
    refine Or.inr ⟨fun h => ?_, rfl, hb⟩
    have := h.2.1
    unfold bytesN at this
    omega
  · by_cases hb : 65536 < toldT s ∨ (toldT s ≤ 65536 ∧ s.size ≠ bytesN (toldT s))
    · refine (ofb_bad s (by omega) hz hb w).mono ?_
      rintro e w' ⟨rfl, hb'⟩
      refine Or.inr ⟨fun h => ?_, rfl, hb'⟩
      rcases hb with hb | hb
      · have := h.1; omega
      · exact hb.2 h.2.1
    · have hT : toldT s ≤ 65536 := by omega
      have hs : s.size = bytesN (toldT s) := Classical.byContradiction (fun hc => hb (Or.inr ⟨hT, hc⟩))
      by_cases hall : ∀ p, toldT s ≤ p → bitS s p = false
      · refine (ofb_main s hT hs false ⟨fun h => Bool.noConfusion h, fun h => (h hall).elim⟩ w).mono ?_
        rintro e w' ⟨rfl, hM, hb'⟩
        exact Or.inl ⟨⟨hT, hs, hall⟩, rfl, hM rfl, hb'⟩
      · refine (ofb_main s hT hs true ⟨fun _ => hall, fun _ => rfl⟩ w).mono ?_
        rintro e w' ⟨rfl, _, hb'⟩
        exact Or.inr ⟨fun h => hall h.2.2, rfl, hb'⟩

end Go.Proofs.YtighdocmncbdnaaGreatDoor
