/-
  Texts BmB2 of the proof.
-/
import Derived.Deep.Onto
import Derived.Test.YtgbpnekinbdadaaGreatDoorPQ40

namespace Go.Proofs.YtgbpnekinbdadaaGreatDoor
open Go.ChangeShapes Go.WideShapes Go.ChangeAt Go.RowKit
set_option linter.unusedVariables false
set_option linter.unusedSimpArgs false

/-- Behind an append to a row of one's own, what lay below is as it was. -/
theorem bbelow_grown {B : Nat} {w wr w' : World} {v : Value} {k e size : Nat} {xs : List Value} {o : Obj} (hb : Below B w wr) (hB : B ≤ wr.heap.size)
  (hown : wr.ownsRow B e size v k xs) (hg : (wr.alloc o).grownBy w' v.ownBlock) : Below B w w' := by
 refine Below.grown (hb.alloc hB o) hg (by simp; omega) (fun j hj => ?_)
 exact (hown.lt j hj).1

theorem bnew_one (W : World) (x : Value) (t : TypeId) : ∀ (j : Nat) (u : Value), [x][j]? = some u → (W.alloc (.cells #[x] t)).cell? ((⟨W.heap.size, 0, none⟩ : Addr).add j) = some u := by
 intro j u hj
 match j, hj with
 | 0, hj => simp at hj; subst hj; simp [Addr.add]

def byteV (n : Nat) (f : Nat → Bool) (L : Nat) : List Value := (List.range L).map fun i => .int .u8 (byteAt n f i : Int)

theorem byteV_succ (n : Nat) (f : Nat → Bool) (L : Nat) : byteV n f (L + 1) = byteV n f L ++ [.int .u8 (byteAt n f L : Int)] := by
 unfold byteV; rw [List.range_succ, List.map_append]; rfl

theorem bsum_more {f : Nat → Bool} {b t : Nat} : ∀ {k : Nat}, t ≤ k → (∀ j, t ≤ j → j < k → f (b + j) = false) → bsum f b k = bsum f b t
  | 0, h, _ => by obtain rfl : t = 0 := by omega
                  rfl
  | k + 1, h, hf => by
    by_cases e : t = k + 1
    · subst e; rfl
    · simp only [bsum]
      rw [hf k (by omega) (by omega), bsum_more (by omega) (fun j h1 h2 => hf j h1 (by omega))]
      simp

set_option maxRecDepth 100000 in
set_option maxHeartbeats 4000000 in
theorem rbytes_ok (b h n : Nat) (f : Nat → Bool) (hbeh : ∀ p, n ≤ p → f p = false) (w : World) (H : RefAt w b h n f) :
  Calls Tryz.prog 66 #[.pointer (some ⟨b, 0, none⟩)] w fun e w' => e = .returned (.string (bytesS n f)) ∧ Below w.heap.size w w' := by
 obtain ⟨i0, hi, hz0, hz1, hz2⟩ := info_parts infoU8b
 have hn := H.small
 have hs := H.slice
 have hbl := H.head.lt
 have HH := hide H
 have HB := hide hbeh
 obtain ⟨nb, hnb⟩ : ∃ nb, (n + 7) / 8 = nb := ⟨_, rfl⟩
 have HN := hide hnb
 have hnl : nb ≤ 8192 := by omega
 have n1 : n ≤ 8 * nb := by omega
 have n2 : 8 * nb < n + 8 := by omega
 clear H hbeh hnb
 have OW0 : (w.alloc (.cells #[.int .u8 ((n : Int) / 16777216), .int .u8 ((n : Int) / 65536 % 256), .int .u8 ((n : Int) / 256 % 256), .int .u8 ((n : Int) % 256)] 5)).ownsRow w.heap.size 5 1 (.slice (some ⟨w.heap.size, 0, none⟩) 4 4) 4 (byteV n f 4) := by
  have e : [Value.int .u8 ((n : Int) / 16777216), .int .u8 ((n : Int) / 65536 % 256), .int .u8 ((n : Int) / 256 % 256), .int .u8 ((n : Int) % 256)] = byteV n f 4 := by
   have e0 : (byteAt n f 0 : Int) = (n : Int) / 16777216 := by unfold byteAt; rw [if_pos (by decide)]; simp; omega
   have e1 : (byteAt n f 1 : Int) = (n : Int) / 65536 % 256 := by unfold byteAt; rw [if_pos (by decide)]; simp
   have e2 : (byteAt n f 2 : Int) = (n : Int) / 256 % 256 := by unfold byteAt; rw [if_pos (by decide)]; simp
   have e3 : (byteAt n f 3 : Int) = (n : Int) % 256 := by unfold byteAt; rw [if_pos (by decide)]; simp
   rw [← e0, ← e1, ← e2, ← e3]
   rfl
  rw [← e]
  exact ⟨rfl, .inr ⟨w.heap.size, 4, _, rfl, Nat.le_refl _, heap_alloc_new w _, Nat.le_refl _, by unfold maxLen; omega, rfl, rfl⟩⟩
 have B0 : Below w.heap.size w (w.alloc (.cells #[.int .u8 ((n : Int) / 16777216), .int .u8 ((n : Int) / 65536 % 256), .int .u8 ((n : Int) / 256 % 256), .int .u8 ((n : Int) % 256)] 5)) := by repeat (first | with_reducible exact Below.refl _ _ | with_reducible refine Below.drew ?_ | with_reducible refine Below.alloc ?_ (by first | omega | (simp <;> omega)) _ | with_reducible refine Below.setCell ?_ (by first | omega | (simp <;> omega)) _)
 have OH := hide OW0
 have BH := hide B0
 clear OW0 B0
 go_enter Tryz.func66, Tryz.ntmps66
 go_wp2_with fail
 go_loopw [4, 5] (fun u i wr => ∃ (j : Nat) (q : Int), j ≤ nb ∧ i = .int .i64 q ∧ Hid (q = 8 * (j : Int)) ∧ 0 ≤ q ∧ q ≤ 65544 ∧ Hid (wr.ownsRow w.heap.size 5 1 u (4 + j) (byteV n f (4 + j))) ∧ Hid (Below w.heap.size w wr)) (fun _ i _ => (65544 - intOf i).toNat)
 case atStart => exact ⟨0, 0, by omega, rfl, rfl, by omega, by omega, OH, BH⟩
 case round =>
  clear OH BH
  obtain ⟨j, q, hj, rfl, hq, q0, q1, hO, hB⟩ := hrel
  have hsr := (hB.out.cell (p := ⟨b, 0, none⟩) hbl).trans hs
  have HHr := hide (HH.out.below hB.out)
  have hq' := hq.out
  by_cases hlt : j < nb
  ·have hqn : q < n := by omega
   obtain ⟨m, hm⟩ : ∃ m : Nat, m = 8 * j := ⟨_, rfl⟩
   obtain rfl : q = (m : Int) := by omega
   have hm8 := hide hm
   have hmn : m < n := by omega
   clear hq hq' hs hm
   go_wp2_with fail
   go_loop [6, 7, 8] (fun x p k => ∃ (t : Nat) (X Y Z : Int), t ≤ 8 ∧ m + t ≤ n ∧ k = .int .i64 Z ∧ Hid (Z = (m : Int) + t) ∧ 0 ≤ Z ∧ Z ≤ 65544 ∧ x = .int .i64 X ∧ p = .int .i64 Y ∧ 0 ≤ X ∧ X < 256 ∧ 0 ≤ Y ∧ Y ≤ 256 ∧ Hid (X = (bsum f m t : Int)) ∧ Hid (Y = 2 ^ t)) (fun _ _ k => (65544 - intOf k).toNat)
   case atStart => exact ⟨0, 0, 1, m, by omega, by omega, rfl, (by simp : (m : Int) = (m : Int) + ((0 : Nat) : Int)), by omega, by omega, rfl, rfl, by omega, by omega, by omega, by omega, rfl, rfl⟩
   case round =>
    obtain ⟨t, X, Y, Z, ht, htn, rfl, hZ, z0, z1, rfl, rfl, X0, X1, Y0, Y1, hX, hY⟩ := hrel
    have hZ' := hZ.out
    by_cases hin : t < 8 ∧ m + t < n
    ·have i1 : Z < (m : Int) + 8 := by omega
     have i2 : Z < n := by omega
     have hg := HHr.out.get (i := m + t) hin.2
     have hgz : wr.cell? ⟨h, Z.toNat, none⟩ = some (.bool (f (m + t))) := by rw [show Z.toNat = m + t by omega]; exact hg
     have hpt : (2 : Int) ^ t ≤ 128 := by
      have : 2 ^ t ≤ 2 ^ 7 := Nat.pow_le_pow_right (by decide) (by omega)
      have e : (2 : Int) ^ t = ((2 ^ t : Nat) : Int) := by rw [Int.natCast_pow]; rfl
      omega
     have hlt1 := bsum_lt f m (t + 1)
     have hp1 : 2 ^ (t + 1) ≤ 2 ^ 8 := Nat.pow_le_pow_right (by decide) (by omega)
     have hYt : Y ≤ 128 := by rw [hY.out]; exact hpt
     have hY2 : Hid (Y * 2 = 2 ^ (t + 1)) := by show _ = _; rw [hY.out, Int.pow_succ]
     have e2t : (2 : Int) ^ t = ((2 ^ t : Nat) : Int) := by rw [Int.natCast_pow]; rfl
     cases hv : f (m + t)
     ·rw [hv] at hgz
      have hX2 : Hid (X = (bsum f m (t + 1) : Int)) := by
       show _ = _
       rw [hX.out]; simp only [bsum]; rw [hv]; simp
      clear hg hv hX hY hpt e2t hZ' hlt1 hp1
      go_wp2
      go_round
      case measure => simp [intOf]; omega
      case rel => exact ⟨t + 1, X, Y * 2, Z + 1, by omega, by omega, rfl, by have := hZ.out; show _ = _; omega, by omega, by omega, rfl, rfl, X0, X1, by omega, by omega, hX2, hY2⟩
     ·rw [hv] at hgz
      have hX2 : Hid (X + Y = (bsum f m (t + 1) : Int)) := by
       show _ = _
       rw [hX.out, hY.out, e2t]; simp only [bsum]; rw [hv]; simp
      have hXl : X + Y < 256 := by rw [hX2.out]; omega
      clear hg hv hX hY hpt e2t hZ' hlt1 hp1
      go_wp2
      go_round
      case measure => simp [intOf]; omega
      case rel => exact ⟨t + 1, X + Y, Y * 2, Z + 1, by omega, by omega, rfl, by have := hZ.out; show _ = _; omega, by omega, by omega, rfl, rfl, by omega, hXl, by omega, by omega, hX2, hY2⟩
    ·have hXf : Hid (X = (byteAt n f (4 + j) : Int)) := by
      show _ = _
      have e8 := hm8.out
      unfold byteAt
      rw [hX.out, if_neg (by omega), show 4 + j - 4 = j by omega, ← e8, bsum_more (t := t) (k := 8) ht (fun y h1 h2 => HB.out _ (by omega))]
     have hex : ¬ Z < (m : Int) + 8 ∨ (Z < (m : Int) + 8 ∧ ¬ Z < n) := by omega
     have hsz := hB.out.size
     have hOo := hO.out
     clear hX hY hZ hZ' hin hsr hO
     rcases hex with hx1 | ⟨hx1, hx2⟩
     all_goals
      go_wp2_with (first | (at_builtin; refine wpList_append_own _ rfl _ _ 107 rfl w.heap.size 5 i0 (.int .u8 0) 1 1 Tryz.underlying107 hi hz0 hz1 hz2 rfl (by decide) _ _ _ rfl (hOo.alloc _) ⟨wr.heap.size, 0, none⟩ 1 1 [.int .u8 X] rfl rfl (bnew_one _ _ _) (by intro u hu; simp at hu; subst hu; rfl) (by unfold maxLen; omega) (by omega) (by simp; omega) ?_))
      intro v' w4 hown4 hgrow _
      have hb5 := hide (bbelow_grown hB.out hsz hOo hgrow)
      have ho5 : Hid (w4.ownsRow w.heap.size 5 1 v' (4 + (j + 1)) (byteV n f (4 + (j + 1)))) := by
       rw [show 4 + (j + 1) = 4 + j + 1 by omega, byteV_succ, ← hXf.out]
       exact hown4
      clear hown4 hgrow hOo hB hXf
      go_wp2
      go_roundw
      case measure => simp [intOf]; omega
      case rel => exact ⟨j + 1, (m : Int) + 8, by omega, rfl, by have := hm8.out; show _ = _; omega, by omega, by have := hm8.out; omega, ho5, hb5⟩
  ·obtain rfl : j = nb := by omega
   have hqn : ¬ q < n := by omega
   have cv : (convert 107 9 u4).run Tryz.prog wr = .ok (.string (bytesS n f)) wr := by
    have hO' := hO.out
    have hN : bytesN n = 4 + j := by unfold bytesN; rw [HN.out]
    obtain ⟨g, cap, rfl, _⟩ : ∃ g cap, u4 = .slice (some ⟨g, 0, none⟩) (4 + j) cap ∧ True := by
     rcases hO'.2 with ⟨rfl, h0⟩ | ⟨g, cap, cur, rfl, _⟩
     ·omega
     ·exact ⟨g, cap, rfl, trivial⟩
    refine run_convert_bytes_arg (P := Tryz.prog) wr 107 5 Tryz.underlying107 Tryz.underlying5 g 0 (4 + j) cap ((List.range (bytesN n)).map (fun i => (byteAt n f i : Int))) (by simp [hN]) (fun i hi => ?_) 9 Tryz.underlying9
    rw [Nat.zero_add, World.ownsRow.cellAt hO' i (by omega)]
    unfold byteV
    simp [hN, hi]
   have hB' := hB.out
   clear hO hB hq hq' hsr HHr
   go_wp2
   go_ret
   exact ⟨rfl, hB'⟩

end Go.Proofs.YtgbpnekinbdadaaGreatDoor
