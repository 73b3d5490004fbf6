/-
  The reference's OfBytes.
-/
import Derived.Test.YtkfglbmhpdcfpaaDoorBmO4
import Derived.Test.YtkfglbmhpdcfpaaDoorBmB2
import Derived.Deep.QuietTactic
import Derived.BigQuiet
import Derived.WalkSmall
import Derived.Lib.Strings
namespace Go.Proofs.YtkfglbmhpdcfpaaDoor
open Go.ChangeShapes Go.WideShapes Go.ChangeAt Go.RowKit
set_option linter.unusedVariables false
set_option linter.unusedSimpArgs false

theorem rofb_short (s : ByteArray) (hs : s.size < 4) (w : World) : Calls Tryd.prog 32 #[.string s] w fun e w' => e = .returned (.tuple #[.pointer none, .int .i64 4]) ∧ Below w.heap.size w w' := by
  have h1 : (s.size : Int) < 4 := by omega
  go_enter Tryd.func32, Tryd.ntmps32
  go_wp2_with fail
  go_ret2
  exact ⟨rfl, by repeat (first | with_reducible exact Below.refl _ _ | with_reducible refine Below.drew ?_ | with_reducible refine Below.alloc ?_ (by first | omega | (simp <;> omega)) _ | with_reducible refine Below.setCell ?_ (by first | omega | (simp <;> omega)) _)⟩

set_option maxRecDepth 100000 in
set_option maxHeartbeats 4000000 in
theorem rofb_bad (s : ByteArray) (hs : 4 ≤ s.size) (hz : s.size ≤ 9000) (hb : 65536 < toldT s ∨ (toldT s ≤ 65536 ∧ s.size ≠ bytesN (toldT s))) (w : World) : Calls Tryd.prog 32 #[.string s] w fun e w' => e = .returned (.tuple #[.pointer none, .int .i64 4]) ∧ Below w.heap.size w w' := by
  have h1 : ¬ (s.size : Int) < 4 := by omega
  have eT := toldT_eq s
  obtain ⟨c0, d0⟩ : ∃ c, sb s 0 = c := ⟨_, rfl⟩
  obtain ⟨c1, d1⟩ : ∃ c, sb s 1 = c := ⟨_, rfl⟩
  obtain ⟨c2, d2⟩ : ∃ c, sb s 2 = c := ⟨_, rfl⟩
  obtain ⟨c3, d3⟩ : ∃ c, sb s 3 = c := ⟨_, rfl⟩
  have l0 : c0 < 256 := d0 ▸ sb_lt s 0
  have l1 : c1 < 256 := d1 ▸ sb_lt s 1
  have l2 : c2 < 256 := d2 ▸ sb_lt s 2
  have l3 : c3 < 256 := d3 ▸ sb_lt s 3
  have z0 : 0 < s.size := by omega
  have b0 : (s[0]'z0).toNat = c0 := by rw [sb_get s 0 z0, d0]
  have z1 : 1 < s.size := by omega
  have b1 : (s[1]'z1).toNat = c1 := by rw [sb_get s 1 z1, d1]
  have z2 : 2 < s.size := by omega
  have b2 : (s[2]'z2).toNat = c2 := by rw [sb_get s 2 z2, d2]
  have z3 : 3 < s.size := by omega
  have b3 : (s[3]'z3).toNat = c3 := by rw [sb_get s 3 z3, d3]
  rw [d0, d1, d2, d3] at eT
  obtain ⟨T, hT⟩ : ∃ T, toldT s = T := ⟨_, rfl⟩
  rw [hT] at eT hb
  have HE : Hid ((c0 : Int) * 16777216 + (c1 : Int) * 65536 + (c2 : Int) * 256 + (c3 : Int) = (T : Int)) := by show _ = _; omega
  have hb' : (T : Int) > 65536 ∨ (¬ (T : Int) > 65536 ∧ ((s.size : Int) - 4 != ((T : Int) + 7) / 8) = true) := by
    unfold bytesN at hb
    rcases hb with hb | ⟨hb, hne⟩
    · left; omega
    · right; exact ⟨by omega, by simp; omega⟩
  clear hT d0 d1 d2 d3 eT hb
  go_enter Tryd.func32, Tryd.ntmps32
  go_wp2_with fail
  go_quiet (fail)
  rw [show (c0 : Int) * 16777216 + (c1 : Int) * 65536 + (c2 : Int) * 256 + (c3 : Int) = (T : Int) from HE.out]
  have B0 : Hid (Below w.heap.size w (w.drewN nq)) := below_drewN (Below.refl _ _) nq
  have hw0 : Hid ((w.drewN nq).heap.size = w.heap.size) := rfl
  clear HE l0 l1 l2 l3 b0 b1 b2 b3
  generalize w.drewN nq = w1 at *
  rcases hb' with h2 | ⟨h2, h3⟩
  all_goals
    go_wp2_with fail
    go_ret2
    exact ⟨rfl, B0.out⟩

theorem bytes_ne {X s : ByteArray} (h : X ≠ s) : (X.toList == s.toList) = false := by
  rw [beq_eq_false_iff_ne]
  intro e
  rw [Lib.toList_data, Lib.toList_data] at e
  apply h
  cases X with
  | mk d =>
    cases s with
    | mk d' =>
      congr 1
      exact Array.ext' e

theorem bit_put {s : ByteArray} {k : Nat} : ∀ p, upd (fun p => decide (p < k) && bitS s p) k (bitS s k) p = (decide (p < k + 1) && bitS s p) := fun p => by
  unfold upd
  by_cases h : p = k
  · rw [if_pos h, decide_eq_true (show p < k + 1 by omega), h]; simp
  · rw [if_neg h]
    show (decide (p < k) && bitS s p) = _
    by_cases h2 : p < k
    · rw [decide_eq_true h2, decide_eq_true (show p < k + 1 by omega)]
    · rw [decide_eq_false h2, decide_eq_false (show ¬ p < k + 1 by omega)]

set_option maxRecDepth 100000 in
set_option maxHeartbeats 8000000 in
theorem rofb_main (s : ByteArray) (hTs : toldT s ≤ 65536) (hs0 : s.size = bytesN (toldT s)) (w : World) : Calls Tryd.prog 32 #[.string s] w fun e w' =>
    ((∀ p, toldT s ≤ p → bitS s p = false) ∧ e = .returned (.tuple #[.pointer (some ⟨w.heap.size + 1, 0, none⟩), .int .i64 0]) ∧ RefAt w' (w.heap.size + 1) w.heap.size (toldT s) (cutF s) ∧ Below w.heap.size w w') ∨
    ((¬ ∀ p, toldT s ≤ p → bitS s p = false) ∧ e = .returned (.tuple #[.pointer none, .int .i64 4]) ∧ Below w.heap.size w w') := by
  have hs : 4 ≤ s.size := by rw [hs0]; unfold bytesN; omega
  have h1 : ¬ (s.size : Int) < 4 := by omega
  have eT := toldT_eq s
  obtain ⟨c0, d0⟩ : ∃ c, sb s 0 = c := ⟨_, rfl⟩
  obtain ⟨c1, d1⟩ : ∃ c, sb s 1 = c := ⟨_, rfl⟩
  obtain ⟨c2, d2⟩ : ∃ c, sb s 2 = c := ⟨_, rfl⟩
  obtain ⟨c3, d3⟩ : ∃ c, sb s 3 = c := ⟨_, rfl⟩
  have l0 : c0 < 256 := d0 ▸ sb_lt s 0
  have l1 : c1 < 256 := d1 ▸ sb_lt s 1
  have l2 : c2 < 256 := d2 ▸ sb_lt s 2
  have l3 : c3 < 256 := d3 ▸ sb_lt s 3
  have z0 : 0 < s.size := by omega
  have b0 : (s[0]'z0).toNat = c0 := by rw [sb_get s 0 z0, d0]
  have z1 : 1 < s.size := by omega
  have b1 : (s[1]'z1).toNat = c1 := by rw [sb_get s 1 z1, d1]
  have z2 : 2 < s.size := by omega
  have b2 : (s[2]'z2).toNat = c2 := by rw [sb_get s 2 z2, d2]
  have z3 : 3 < s.size := by omega
  have b3 : (s[3]'z3).toNat = c3 := by rw [sb_get s 3 z3, d3]
  rw [d0, d1, d2, d3] at eT
  obtain ⟨T, hT⟩ : ∃ T, toldT s = T := ⟨_, rfl⟩
  obtain ⟨nb, hnb⟩ : ∃ nb, (T + 7) / 8 = nb := ⟨_, rfl⟩
  have hsz : s.size = 4 + nb := by rw [hs0, hT]; unfold bytesN; rw [hnb]
  have BC := hide (@bytes_cut s hs0)
  have RB := hide (fun (b h : Nat) (W : World) (R : RefAt W b h (toldT s) (cutF s)) => rbytes_ok b h (toldT s) (cutF s) (fun p hp => by unfold cutF; rw [decide_eq_false (by omega), Bool.false_and]) W R)
  have HTs := hide hT
  have hTl := hTs
  rw [hT] at eT hTl
  have HE : Hid ((c0 : Int) * 16777216 + (c1 : Int) * 65536 + (c2 : Int) * 256 + (c3 : Int) = (T : Int)) := by show _ = _; omega
  have h2 : ¬ (T : Int) > 65536 := by omega
  have h3 : ((s.size : Int) - 4 != ((T : Int) + 7) / 8) = false := by simp; omega
  have hnT : T ≤ 8 * nb := by omega
  have HS := hide hsz
  have hz : s.size ≤ 9000 := by omega
  have hmk : ∀ w, (Instr.makeSlice 56 (.int .i64 (T : Int)) (.int .i64 (T : Int))).run Tryd.prog w = .ok (.slice (some ⟨w.heap.size, 0, none⟩) T T) (w.alloc (.cells (madeCells #[.bool false] T) 4)) := fun w =>
    run_make_row' (P := Tryd.prog) 56 4 (.bool false) 1 Tryd.underlying56 infoBool rfl .i64 .i64 T (by omega) (by omega) w
  clear hT d0 d1 d2 d3 eT hs0 hTs hnb hsz
  go_enter Tryd.func32, Tryd.ntmps32
  go_wp2_with fail
  go_quiet (fail)
  rw [show (c0 : Int) * 16777216 + (c1 : Int) * 65536 + (c2 : Int) * 256 + (c3 : Int) = (T : Int) from HE.out]
  have B0 : Hid (Below w.heap.size w (w.drewN nq)) := below_drewN (Below.refl _ _) nq
  have hw0 : Hid ((w.drewN nq).heap.size = w.heap.size) := rfl
  clear HE l0 l1 l2 l3 b0 b1 b2 b3
  generalize w.drewN nq = w1 at *
  have R0 : Hid (RefAt ((w1.alloc (.cells (madeCells #[.bool false] T) 4)).alloc (.cells #[.slice (some ⟨w1.heap.size, 0, none⟩) T T] 58)) (w1.heap.size + 1) w1.heap.size T (fun p => decide (p < 0) && bitS s p)) := by
    refine ⟨?_, ?_, hTl⟩
    · have e := Blk.new (w1.alloc (.cells (madeCells #[.bool false] T) 4)) #[.slice (some ⟨w1.heap.size, 0, none⟩) T T] 58
      rw [show (w1.alloc (.cells (madeCells #[.bool false] T) 4)).heap.size = w1.heap.size + 1 by simp] at e
      exact e
    · refine Blk.alloc ?_ _
      have e : madeCells #[Value.bool false] T = ((List.range T).map (fun p => Value.bool ((fun p => decide (p < 0) && bitS s p) p))).toArray := by
        apply Array.ext'; rw [toList_madeCells_one]; simp [List.map_const']
      rw [← e]
      exact Blk.new _ _ _
  have B1' : Below w1.heap.size w1 ((w1.alloc (.cells (madeCells #[.bool false] T) 4)).alloc (.cells #[.slice (some ⟨w1.heap.size, 0, none⟩) T T] 58)) := by repeat (first | with_reducible exact Below.refl _ _ | with_reducible refine Below.drew ?_ | with_reducible refine Below.alloc ?_ (by first | omega | (simp <;> omega)) _ | with_reducible refine Below.setCell ?_ (by first | omega | (simp <;> omega)) _)
  have B1 := hide B1'
  clear B1'
  go_wp2_with fail
  go_loopw [6] (fun t wr => ∃ k : Nat, k ≤ T ∧ t = .int .i64 k ∧ Hid (RefAt wr (w1.heap.size + 1) w1.heap.size T (fun p => decide (p < k) && bitS s p)) ∧ Hid (Below w1.heap.size w1 wr)) (fun t _ => T - (intOf t).toNat)
  case atStart => exact ⟨0, by omega, rfl, R0, B1⟩
  case round =>
    clear R0 B1
    obtain ⟨k, hk, rfl, hR, hB⟩ := hrel
    have hsl := hR.out.slice
    by_cases hlt : k < T
    · have hlt' : (k : Int) < T := by omega
      have hg := hR.out.get (i := k) hlt
      have hz := hR.out.row.frozen k
      obtain ⟨c, hc⟩ : ∃ c, sb s (4 + k / 8) = c := ⟨_, rfl⟩
      have hcl : c < 256 := by rw [← hc]; exact sb_lt s _
      have hbk : 4 + k / 8 < s.size := by rw [HS.out]; omega
      have bg : (s[4 + k / 8]'hbk).toNat = c := by rw [sb_get s _ hbk, hc]
      have hbk' : 4 + (k : Int) / 8 < (s.size : Int) := by omega
      have hbit : bitS s k = decide (c / 2 ^ (k % 8) % 2 = 1) := by unfold bitS; rw [hc, Nat.testBit_eq_decide_div_mod_eq]
      have HBit := hide hbit
      have NX : Hid (∀ v : Bool, v = bitS s k → RefAt (wr.setCell ⟨w1.heap.size, k, none⟩ (.bool v)) (w1.heap.size + 1) w1.heap.size T (fun p => decide (p < k + 1) && bitS s p)) := fun v hv => by
        subst hv
        exact (hR.out.put k _).cast (fun p _ => bit_put p)
      have NB : Hid (∀ v, Below w1.heap.size w1 (wr.setCell ⟨w1.heap.size, k, none⟩ v)) := fun v => hB.out.setCell (p := ⟨w1.heap.size, k, none⟩) (Nat.le_refl _) v
      clear hc hbit hR hB
      simp only [Nat.lt_irrefl, decide_false, Bool.false_and] at hg
      go_wp2_with fail
      go_loop [7, 8] (fun x j => ∃ (t X : Nat), t ≤ k % 8 ∧ j = .int .i64 t ∧ x = .int .i64 X ∧ X < 256 ∧ Hid (X = c / 2 ^ t)) (fun _ j => k % 8 - (intOf j).toNat)
      case atStart => exact ⟨0, c, by omega, rfl, by first | rfl | simp, hcl, by show _ = _; simp⟩
      case round =>
        obtain ⟨t, X, ht, rfl, rfl, hXl, hX⟩ := hrel
        by_cases hin : t < k % 8
        · have hin' : (t : Int) < (k : Int) % 8 := by omega
          have hX2 : Hid (X / 2 = c / 2 ^ (t + 1)) := by show _ = _; rw [hX.out, Nat.div_div_eq_div_mul, Nat.pow_succ]
          clear hX
          go_wp2
          go_round
          case measure => simp [intOf]; omega
          case rel => exact ⟨t + 1, X / 2, by omega, by go_num, by go_num, by omega, hX2⟩
        · have hin' : ¬ (t : Int) < (k : Int) % 8 := by omega
          have et : t = k % 8 := by omega
          have hv : Hid (((X : Int) % 2 == 1) = bitS s k) := by
            show _ = _
            rw [HBit.out, ← et, ← hX.out]
            have : X % 2 = 0 ∨ X % 2 = 1 := by omega
            rcases this with h | h
            · rw [decide_eq_false (by omega)]; simp; omega
            · rw [decide_eq_true h]; simp; omega
          clear hX et HBit hin
          go_wp2
          go_roundw
          case measure => simp [intOf]; omega
          case rel => exact ⟨k + 1, by omega, by go_num, NX.out _ hv.out, NB.out _⟩
    · obtain rfl : k = T := by omega
      have RT : Hid (RefAt wr (w1.heap.size + 1) w1.heap.size (toldT s) (cutF s)) := by
        rw [HTs.out]
        exact hR.out.cast (fun p hp => by unfold cutF; rw [HTs.out])
      have BY := hide (RB.out _ _ _ RT.out)
      clear hR hsl RB
      by_cases hall : ∀ p, toldT s ≤ p → bitS s p = false
      · have eb : bytesS (toldT s) (cutF s) = s := BC.out.2 hall
        rw [eb] at BY
        have HA := hide hall
        clear eb hall BC
        go_wp2_with fail
        refine BY.out.mono ?_
        rintro e w5 ⟨rfl, hb⟩
        have R5 := hide (RT.out.below hb)
        have B5 := hide (next_bel (next_bel B0.out hB.out) hb)
        clear hb RT hB B0 BY
        go_wp2_with fail
        go_ret2
        have hw := hw0.out
        exact Or.inl ⟨HA.out, by rw [← hw]; rfl, by rw [← hw]; exact R5.out, B5.out⟩
      · have eb : bytesS (toldT s) (cutF s) ≠ s := fun h => hall (BC.out.1 h)
        obtain ⟨X, hX⟩ : ∃ X, bytesS (toldT s) (cutF s) = X := ⟨_, rfl⟩
        rw [hX] at BY eb
        have HA := hide hall
        have ebl := bytes_ne eb
        clear hall BC hX eb
        go_wp2_with fail
        refine BY.out.mono ?_
        rintro e w5 ⟨rfl, hb⟩
        have B5 := hide (next_bel (next_bel B0.out hB.out) hb)
        clear hb RT hB B0 BY
        go_wp2_with fail
        go_ret2
        exact Or.inr ⟨HA.out, rfl, B5.out⟩

theorem rofb_c (s : ByteArray) (hz : s.size ≤ 9000) (w : World) : Calls Tryd.prog 32 #[.string s] w fun e w' =>
    (okS s ∧ e = .returned (.tuple #[.pointer (some ⟨w.heap.size + 1, 0, none⟩), .int .i64 0]) ∧ RefAt w' (w.heap.size + 1) w.heap.size (toldT s) (bitS s) ∧ Below w.heap.size w w') ∨
    (¬ okS s ∧ e = .returned (.tuple #[.pointer none, .int .i64 4]) ∧ Below w.heap.size w w') := by
  by_cases h4 : s.size < 4
  · refine (rofb_short s h4 w).mono ?_
    rintro e w' ⟨rfl, hb⟩
    refine Or.inr ⟨fun h => ?_, rfl, hb⟩
    have := h.2.1
    unfold bytesN at this
    omega
  · by_cases hb : 65536 < toldT s ∨ (toldT s ≤ 65536 ∧ s.size ≠ bytesN (toldT s))
    · refine (rofb_bad s (by omega) hz hb w).mono ?_
      rintro e w' ⟨rfl, hb'⟩
      refine Or.inr ⟨fun h => ?_, rfl, hb'⟩
      rcases hb with hb | hb
      · have := h.1; omega
      · exact hb.2 h.2.1
    · have hT : toldT s ≤ 65536 := by omega
      have hs : s.size = bytesN (toldT s) := Classical.byContradiction (fun hc => hb (Or.inr ⟨hT, hc⟩))
      refine (rofb_main s hT hs w).mono ?_
      rintro e w' (⟨hall, rfl, hR, hb'⟩ | ⟨hall, rfl, hb'⟩)
      · exact Or.inl ⟨⟨hT, hs, hall⟩, rfl, hR.cast (fun p _ => cut_ok ⟨hT, hs, hall⟩ p), hb'⟩
      · exact Or.inr ⟨fun h => hall h.2.2, rfl, hb'⟩

end Go.Proofs.YtkfglbmhpdcfpaaDoor
