/-
  Texts Po8 of the proof.
-/
import Derived.Test.YtighdocmncbdnaaGreatDoorQBy43
import Derived.Test.YtighdocmncbdnaaGreatDoorQBy24
import Derived.Test.YtighdocmncbdnaaGreatDoorQBy42

namespace Go.Proofs.YtighdocmncbdnaaGreatDoor
open Go.ChangeShapes Go.WideShapes Go.ChangeAt Go.RowKit
set_option linter.unusedVariables false
set_option linter.unusedSimpArgs false

/-- What is used, without the first k of those that are kept. -/
def dK (f : Nat → Bool) (lk : Bool) (N k : Nat) : Nat → Bool := fun p => f p && !decide (p ∈ (kpL lk N).take k)

theorem dK_zero {f : Nat → Bool} {lk : Bool} {N : Nat} : dK f lk N 0 = f := by
  funext p
  simp [dK]

theorem dK_full {f : Nat → Bool} {lk : Bool} {N k : Nat} (h0 : 0 < N) (hk : (kpL lk N).length ≤ k) : dK f lk N k = fun p => f p && !kpF lk N p := by
  funext p
  rw [← kp_mem h0]
  unfold dK
  rw [List.take_of_length_le hk]

theorem dK_get {f : Nat → Bool} {lk : Bool} {N k i : Nat} (h0 : 0 < N) (hi : (kpL lk N)[k]? = some i) : dK f lk N (k + 1) = dropF N (dK f lk N k) i := by
  have e : dropF N (dK f lk N k) (i : Int) = upd (dK f lk N k) i false := by
    have : i < N := by
      have hm := List.mem_of_getElem? hi
      have : kpF lk N i = true := by rw [← kp_mem h0]; exact decide_eq_true hm
      unfold kpF at this
      simp at this
      omega
    unfold dropF
    rw [if_pos (by omega), Int.toNat_natCast]
  rw [e]
  funext p
  have ht : (kpL lk N).take (k + 1) = (kpL lk N).take k ++ [i] := by rw [List.take_add_one, hi]; rfl
  unfold upd dK
  rw [ht]
  by_cases c : p = i
  · subst c; simp
  · simp [c]

set_option maxRecDepth 100000 in
set_option maxHeartbeats 3200000 in
theorem used_c {v : Bool} {h l b : Int} {x a g n : Nat} {f : Nat → Bool} (hp : IsNum h l n) (h0 : 0 < szP v n b) (w : World) (P0 : PoAt w v h l b x a g (szP v n b) f) :
    Calls Tryz.prog 71 #[.pointer (some ⟨x, 0, none⟩)] w fun e w' => ∃ a' g', e = .returned (.pointer (some ⟨a', 0, none⟩)) ∧ MapB w' a' g' (szP v n b) (fun p => f p && !kpF (lkP v b) (szP v n b) p) ∧ Below w.heap.size w w' ∧ w.heap.size ≤ a' ∧ w.heap.size ≤ g' := by
  have KE := fun w' P' => kept_c (v := v) (b := b) (x := x) (a := a) (g := g) (f := f) hp h0 w' P'
  obtain ⟨N, hN⟩ : ∃ N, szP v n b = N := ⟨_, rfl⟩
  obtain ⟨lk, hlk⟩ : ∃ lk, lkP v b = lk := ⟨_, rfl⟩
  rw [hN] at KE P0 h0 ⊢
  rw [hlk] at KE ⊢
  have KH := hide KE
  obtain ⟨x0, x1, x2, x3, x4, xl⟩ := P0.hd.five
  have CC := hide (copy_ok a g N f w P0.m)
  have PH := hide P0
  clear KE P0 hp hN hlk
  go_enter Tryz.func71, Tryz.ntmps71
  go_wp2_with fail
  refine CC.out.mono ?_
  rintro e w1 ⟨rfl, hM, hb, hs⟩
  have P1 := PH.out.below hb
  have KP := hide (KH.out w1 P1)
  have M1 := hide hM
  have B1 := hide hb
  clear CC hM hb hs KH PH P1 x0 x1 x2 x3 x4
  go_wp2_with fail
  refine KP.out.mono ?_
  rintro e w2 ⟨k, rfl, hk, hkl, hb⟩
  have l4 := M1.out.lt
  have M2 : Hid (MapB w2 (w.heap.size + 1) w.heap.size N (dK f lk N 0)) := by rw [dK_zero]; exact M1.out.below hb
  have B2 : Hid (Below w.heap.size w w2) := B1.out.trans (hb.mono B1.out.size)
  have K2 := hide hk
  have kg : k ∉ [w.heap.size] := by simp; omega
  obtain ⟨L, hL⟩ : ∃ L, (kpL lk N).length = L := ⟨_, rfl⟩
  have L2 : L ≤ 2 := hL ▸ kpL_len lk N
  have HL := hide hL
  rw [hL]
  clear hk hkl hb KP M1 B1 hL l4
  go_wp2_with fail
  go_loopw [14] (fun t wr => ∃ j : Nat, j ≤ L ∧ t = .int .i64 j ∧ Hid (MapB wr (w.heap.size + 1) w.heap.size N (dK f lk N j)) ∧ Hid (Below w.heap.size w wr) ∧ Hid (Blk wr k (((kpL lk N).map fun i : Nat => Value.int .i64 (i : Int))).toArray 3)) (fun t _ => L - (intOf t).toNat)
  case atStart => exact ⟨0, by omega, rfl, M2, B2, K2⟩
  case round =>
    clear M2 B2 K2
    obtain ⟨j, hj, rfl, M, B, K⟩ := hrel
    by_cases hlt : j < L
    · have hlt' : (j : Int) < L := by omega
      obtain ⟨i, hi⟩ : ∃ i, (kpL lk N)[j]? = some i := ⟨_, List.getElem?_eq_getElem (by rw [HL.out]; exact hlt)⟩
      have c := K.out.cell j
      simp only [List.getElem?_toArray, List.getElem?_map, hi, Option.map_some] at c
      have PT := drop_any (w.heap.size + 1) w.heap.size N (dK f lk N j) i wr M.out
      rw [← dK_get h0 hi] at PT
      have PTH := hide PT
      generalize dropV N (dK f lk N j) (i : Int) = dv at PTH
      clear PT hi
      go_wp2_with fail
      refine PTH.out.mono ?_
      rintro e w3 ⟨rfl, hM, hK⟩
      have M3 := hide hM
      have B3 : Hid (Below w.heap.size w w3) := hK.to B.out (Nat.le_refl _) B.out.size
      have K3 : Hid (Blk w3 k _ _) := hK.blk K.out K.out.lt kg
      clear hM hK PTH M B K c
      go_wp2
      go_roundw
      case rel => exact ⟨j + 1, by omega, by go_num, M3, B3, K3⟩
      case measure => simp [intOf]; omega
    · have hlt' : ¬ (j : Int) < L := by omega
      have MF := M.out
      rw [dK_full h0 (by rw [HL.out]; omega)] at MF
      have M4 := hide MF
      clear MF M K
      go_wp2
      go_ret
      first
        | exact ⟨w.heap.size + 1, rfl, w.heap.size, M4.out, B.out, by omega, Nat.le_refl _⟩
        | exact ⟨w.heap.size + 1, w.heap.size, rfl, M4.out, B.out, by omega, Nat.le_refl _⟩

/-- A pool's bytes. -/
def poS (v : Bool) (n : Nat) (b : Int) (f : Nat → Bool) : ByteArray := prP v n b ++ ⟨#[0]⟩ ++ bytesS (szP v n b) (fun p => f p && !kpF (lkP v b) (szP v n b) p)

theorem bitsT_size {b : Int} (h0 : 0 ≤ b) (h1 : b ≤ 128) : (bitsT b).size ≤ 20 := by
  have := decDigits_len (n := b.toNat) (by omega)
  unfold bitsT
  show (Lib.decDigits b.toNat).toArray.size ≤ 20
  rw [List.size_toArray]
  exact this

theorem prP_size (v : Bool) (n : Nat) (b : Int) : (prP v n b).size ≤ 2100 := by
  unfold prP
  split
  · rename_i ok
    obtain ⟨_, h0, h1⟩ := fitsB_parts (okP_parts ok).1
    have hw := width_le v
    have a1 := prA_size v n
    have a2 := bitsT_size h0 (by omega)
    have a3 : (⟨#[47]⟩ : ByteArray).size = 1 := rfl
    rw [ByteArray.size_append, ByteArray.size_append]
    omega
  · decide

theorem bytesS_size (N : Nat) (f : Nat → Bool) : (bytesS N f).size = bytesN N := by
  have e := congrArg List.length (bytesS_list N f)
  rw [List.length_map, List.length_range] at e
  exact e

set_option maxRecDepth 100000 in
set_option maxHeartbeats 1600000 in
theorem poBytes_c {v : Bool} {h l b : Int} {x a g n : Nat} {f : Nat → Bool} (hp : IsNum h l n) (h0 : 0 < szP v n b) (w : World) (hL : LW w) (P0 : PoAt w v h l b x a g (szP v n b) f) :
    Calls Tryz.prog 30 #[.pointer (some ⟨x, 0, none⟩)] w fun e w' => e = .returned (.string (poS v n b f)) ∧ Below w.heap.size w w' := by
  have PP := hide (pprint_c (v := v) (b := b) hp w hL)
  have US := hide (fun w' P' => used_c (v := v) (b := b) (x := x) (a := a) (g := g) (f := f) hp h0 w' P')
  have s1 := prP_size v n b
  have s2 := bytesS_size (szP v n b) (fun p => f p && !kpF (lkP v b) (szP v n b) p)
  have le := szP_le (v := v) (n := n) (b := b)
  have bn : bytesN (szP v n b) ≤ 8196 := by unfold bytesN; omega
  have HS : Hid (poS v n b f = prP v n b ++ ⟨#[0]⟩ ++ bytesS (szP v n b) (fun p => f p && !kpF (lkP v b) (szP v n b) p)) := rfl
  obtain ⟨x0, x1, x2, x3, x4, xl⟩ := P0.hd.five
  have PH := hide P0
  generalize poS v n b f = R at *
  generalize prP v n b = A at *
  clear hp h0 hL P0
  go_enter Tryz.func30, Tryz.ntmps30
  go_wp2_with fail
  refine PP.out.mono ?_
  rintro e w1 ⟨rfl, hb⟩
  have P1 := PH.out.below hb
  have U1 := hide (US.out w1 P1)
  have B1 := hide hb
  clear PP hb PH US P1 x0 x1 x2 x3 x4
  go_wp2_with fail
  refine U1.out.mono ?_
  rintro e w2 ⟨a', g', rfl, hM, hb, _, _⟩
  have MB := hide (bytes_ok a' g' _ _ w2 hM)
  have B2 := hide (B1.out.trans (hb.mono B1.out.size))
  generalize bytesS (szP v n b) (fun p => f p && !kpF (lkP v b) (szP v n b) p) = D at *
  clear U1 hM hb B1
  have s3 : D.size ≤ 8196 := by omega
  go_wp2_with fail
  refine MB.out.mono ?_
  rintro e w3 ⟨rfl, hb⟩
  have B3 := hide (B2.out.trans (hb.mono B2.out.size))
  clear MB hb B2
  go_wp2
  go_ret
  exact ⟨by rw [HS.out]; rfl, B3.out⟩
end Go.Proofs.YtighdocmncbdnaaGreatDoor
