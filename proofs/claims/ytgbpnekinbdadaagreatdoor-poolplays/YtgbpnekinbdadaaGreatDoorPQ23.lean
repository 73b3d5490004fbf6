/-
  Texts Pfx6 of the proof.
-/
import Derived.Lib.Itoa
import Derived.Test.YtgbpnekinbdadaaGreatDoorPQ22
import Derived.Test.YtgbpnekinbdadaaGreatDoorPQ18
import Derived.Test.YtgbpnekinbdadaaGreatDoorPQ0

namespace Go.Proofs.YtgbpnekinbdadaaGreatDoor
open Go.ChangeShapes Go.WideShapes Go.ChangeAt Go.RowKit
set_option linter.unusedVariables false
set_option linter.unusedSimpArgs false

theorem joinT_size (b : Int) (ns : List Nat) (h8 : ns.length ≤ 8) (hm : ∀ n ∈ ns, n < 65536) (c : UInt8) : (joinT b ns [c]).length ≤ 808 := by
 have := join_len (sep := [c]) (L := 100) (by simp) (xs := ns.map fun n => (txtP b n).data.toList) (fun x hx => by
  obtain ⟨m, hm', rfl⟩ := List.mem_map.1 hx
  simpa using txtP_size (b := b) (hm m hm'))
 rw [List.length_map] at this
 have h2 : ns.length * (100 + 1) ≤ 8 * 101 := Nat.mul_le_mul_right _ h8
 unfold joinT
 omega

theorem prA_size (v : Bool) (a : Nat) : (prA v a).size ≤ 2000 := by
 have l4 := topP_length a 32 8 4
 have l8 := topP_length a 128 16 8
 have t4 := topP_lt a 32 8 (by decide) 4
 have t8 := topP_lt a 128 16 (by decide) 8
 unfold prA
 split
 ·split
  ·unfold prL
   split
   ·have := joinT_size 16 (topP a 128 16 8) (by omega) t8 58
    simp [ByteArray.size]; omega
   ·have h1 := joinT_size 16 ((topP a 128 16 8).take (loR (topP a 128 16 8)).1) (by simp; omega) (fun n h => t8 n (List.mem_of_mem_take h)) 58
    have h2 := joinT_size 16 ((topP a 128 16 8).drop (loR (topP a 128 16 8)).2) (by simp; omega) (fun n h => t8 n (List.mem_of_mem_drop h)) 58
    simp [ByteArray.size]; omega
  ·unfold prS
   have := joinT_size 10 (topP a 32 8 4) (by omega) t4 46
   simp [ByteArray.size]; omega
 ·decide

/-- The digits of a number of bits. -/
def bitsT (b : Int) : ByteArray := ⟨(Lib.decDigits b.toNat).toArray⟩

/-- A prefix's text. -/
def prP (v : Bool) (a : Nat) (b : Int) : ByteArray := if okP v a b = true then prA v a ++ ⟨#[47]⟩ ++ bitsT b else ⟨#[]⟩

theorem itoa_w {b : Int} (h0 : 0 ≤ b) (h1 : b ≤ 128) (w : World) (hL : LW w) : Calls Tryz.prog 39 #[.int .i64 b] w fun e w' => e = .returned (.string (bitsT b)) ∧ Below w.heap.size w w' := by
 refine (Tryz.strconv_Itoa b (by omega) (by omega) w hL.p10).mono ?_
 rintro e w' ⟨rfl, k, os, rfl⟩
 refine ⟨?_, Lib.below_grow _ _ (Nat.le_refl _) _ _⟩
 congr 2
 unfold bitsT Lib.itoa
 rw [if_neg (by omega)]

set_option maxHeartbeats 800000 in
theorem pprint_no {v : Bool} {h l b : Int} {a : Nat} (ha : IsNum h l a) (hk : okP v a b = false) (w : World) :
  Calls Tryz.prog 8 #[pv v h l b] w fun e w' => e = .returned (.string (prP v a b)) ∧ Below w.heap.size w w' := by
 have f : Hid (prP v a b = ⟨#[]⟩) := by show _ = _; unfold prP; rw [if_neg (by rw [hk]; simp)]
 have R := fun w' => pright_c (v := v) (b := b) ha w'
 rw [hk] at R
 clear hk ha
 go_enter Tryz.func8, Tryz.ntmps8
 go_wp2_with fail
 refine (R _).mono ?_
 rintro e w1 ⟨rfl, hb1⟩
 obtain ⟨hc1, hf1⟩ := bcell hb1
 have hz_w1_0 : w.heap.size < w1.heap.size   := (by have := hb1.size; first | omega | (simp at this; omega))
 clear R
 go_wp2
 go_ret
 exact ⟨by rw [f.out]; rfl, by repeat (first | with_reducible exact Below.refl _ _ | with_reducible refine Below.drew ?_ | with_reducible refine Below.alloc ?_ (by first | omega | (simp <;> omega)) _ | with_reducible refine Below.setCell ?_ (by first | omega | (simp <;> omega)) _ | with_reducible refine Below.trans ?_ (Below.mono hb1 (by first | omega | (simp <;> omega))))⟩

set_option maxRecDepth 100000 in
set_option maxHeartbeats 1600000 in
theorem pprint_ok {v : Bool} {h l b : Int} {a : Nat} (ha : IsNum h l a) (hk : okP v a b = true) (w : World) (hL : LW w) :
  Calls Tryz.prog 8 #[pv v h l b] w fun e w' => e = .returned (.string (prP v a b)) ∧ Below w.heap.size w w' := by
 have hz := hL.sz
 obtain ⟨hf, hm⟩ := okP_parts hk
 obtain ⟨_, h0, h1⟩ := fitsB_parts hf
 have hw := width_le v
 have f : Hid (prP v a b = prA v a ++ ⟨#[47]⟩ ++ bitsT b) := by show _ = _; unfold prP; rw [if_pos hk]
 have R : Hid (∀ w', Calls Tryz.prog 36 #[pv v h l b] w' fun e w1 => e = .returned (.bool true) ∧ Below w'.heap.size w' w1) := fun w' => hk ▸ pright_c ha w'
 have C1 : Hid (∀ w', Below w.heap.size w w' → Calls Tryz.prog 38 #[av v h l] w' fun e w1 => e = .returned (.string (prA v a)) ∧ Below w'.heap.size w' w1) := fun w' hb => aprint_c ha w' (hL.of hb hz)
 have C2 : Hid (∀ w', Below w.heap.size w w' → Calls Tryz.prog 39 #[.int .i64 b] w' fun e w1 => e = .returned (.string (bitsT b)) ∧ Below w'.heap.size w' w1) := fun w' hb => itoa_w h0 (by omega) w' (hL.of hb hz)
 have sX := prA_size v a
 have sY : (bitsT b).size ≤ 20 := by
  have := decDigits_len (n := b.toNat) (by omega)
  unfold bitsT; simp [ByteArray.size]; omega
 generalize prA v a = X at *
 generalize bitsT b = Y at *
 clear hk ha hL hf hm hw h0 h1
 go_enter Tryz.func8, Tryz.ntmps8
 go_wp2_with fail
 refine (R.out _).mono ?_
 rintro e w1 ⟨rfl, hb1⟩
 have A1 : Blk w1 w.heap.size #[.bool v, .int .u64 h, .int .u64 l, .int .i64 b] 28 := (Blk.new _ _ _).below hb1
 have B1 : Below w.heap.size w w1 := by repeat (first | with_reducible exact Below.refl _ _ | with_reducible refine Below.drew ?_ | with_reducible refine Below.alloc ?_ (by first | omega | (simp <;> omega)) _ | with_reducible refine Below.setCell ?_ (by first | omega | (simp <;> omega)) _ | with_reducible refine Below.trans ?_ (Below.mono hb1 (by first | omega | (simp <;> omega))))
 have S0 : P4 w.heap.size v h l b w1 := P4.of A1
 clear R hb1
 go_wp2_with fail
 refine wp_region_held_drew (S := (P4 w.heap.size v h l b)) (by kernel_rfl) ?hS5001 (fun hHeld => ?rest5001)
 case hS5001 => with_reducible exact S0.drew
 refine w8 0 ?_ (ga7 rfl) (by kernel_rfl) (fun _ _ _ h => h) ⟨by rfl, ?y5002⟩ hHeld ?_
 case y5002 => (intro wq hSw; (try simp only [Two, P4] at hSw); go_simp; try with_reducible rfl)
 try simp only [Act.put, a7, b7, c7]
 refine w8 1 ?_ (ga7 rfl) (by kernel_rfl) (fun _ _ _ h => h) ⟨by rfl, ?y5003⟩ hHeld ?_
 case y5003 => (intro wq hSw; (try simp only [Two, P4] at hSw); go_simp; try with_reducible rfl)
 try simp only [Act.put, a7, b7, c7]
 refine w8 4 ?_ (ga7 rfl) (by kernel_rfl) (fun _ _ _ h => h) ⟨by rfl, ?y5004⟩ hHeld ?_
 case y5004 => (intro wq hSw; (try simp only [Two, P4] at hSw); go_simp; try with_reducible rfl)
 try simp only [Act.put, a7, b7, c7]
 refine w8 5 ?_ (ga7 rfl) (by kernel_rfl) (fun _ _ _ h => h) ⟨by rfl, ?y5005⟩ hHeld ?_
 case y5005 => (intro wq hSw; (try simp only [Two, P4] at hSw); go_simp; try with_reducible rfl)
 try simp only [Act.put, a7, b7, c7]
 refine wpAnyH_ready (rs := [2]) (by kernel_rfl) (by simp) ?rdy5006
 refine (AllReadyH.cons (ga7 rfl) (fun K hK => ?stp5006_2) AllReadyH.nil)
 case stp5006_2 =>
  go_simp
  go_wp2_with fail
  (refine (C1.out _ (Below.drew B1)).mono ?_; rintro e w3 ⟨rfl, hb3⟩; have B3 : Below w.heap.size w w3 := Below.via hb3 B1 (Nat.le_refl _) rfl rfl rfl rfl)
  go_wp2_with fail
  refine hK.out _ _ ?hSn5007 (fun hHeld2 => ?rest5007)
  case hSn5007 => with_reducible exact hHeld.below hb3
  clear hK K hHeld
  have hHeld := hHeld2
  clear hHeld2
  try simp only [Act.put, a7, b7, c7]
  refine wpAnyH_ready (rs := [3, 6]) (by kernel_rfl) (by simp) ?rdy5008
  refine (AllReadyH.cons (ga7 rfl) (fun K hK => ?stp5008_3) (AllReadyH.cons (ga7 rfl) (fun K hK => ?stp5008_6) AllReadyH.nil))
  case stp5008_3 =>
   go_simp
   go_wp2_with fail
   refine hK.out _ _ ?hSn5009 (fun hHeld2 => ?rest5009)
   case hSn5009 => (first | with_reducible exact S0.drew | with_reducible exact hHeld | with_reducible exact hHeld.below hb3 | with_reducible exact hHeld.below hb4)
   clear hK K hHeld
   have hHeld := hHeld2
   clear hHeld2
   try simp only [Act.put, a7, b7, c7]
   refine wpAnyH_ready (rs := [6]) (by kernel_rfl) (by simp) ?rdy5010
   refine (AllReadyH.cons (ga7 rfl) (fun K hK => ?stp5010_6) AllReadyH.nil)
   case stp5010_6 =>
    go_simp
    go_wp2_with fail
    (refine (C2.out _ B3).mono ?_; rintro e w4 ⟨rfl, hb4⟩; have B4 : Below w.heap.size w w4 := Below.via hb4 B3 (Nat.le_refl _) rfl rfl rfl rfl)
    go_wp2_with fail
    refine hK.out _ _ ?hSn5011 (fun hHeld2 => ?rest5011)
    case hSn5011 => with_reducible exact hHeld.below hb4
    clear hK K hHeld
    have hHeld := hHeld2
    clear hHeld2
    try simp only [Act.put, a7, b7, c7]
    refine wpAnyH_ready (rs := [7]) (by kernel_rfl) (by simp) ?rdy5012
    refine (AllReadyH.cons (ga7 rfl) (fun K hK => ?stp5012_7) AllReadyH.nil)
    case stp5012_7 =>
     go_simp
     go_wp2_with fail
     refine hK.out _ _ ?hSn5013 (fun hHeld2 => ?rest5013)
     case hSn5013 => (first | with_reducible exact S0.drew | with_reducible exact hHeld | with_reducible exact hHeld.below hb3 | with_reducible exact hHeld.below hb4)
     clear hK K hHeld
     have hHeld := hHeld2
     clear hHeld2
     try simp only [Act.put, a7, b7, c7]
     refine w8 8 ?_ (ga7 rfl) (by kernel_rfl) (fun _ _ _ h => h) ⟨by rfl, ?y5014⟩ hHeld ?_
     case y5014 => (intro wq hSw; (try simp only [Two, P4] at hSw); go_simp; try with_reducible rfl)
     try simp only [Act.put, a7, b7, c7]
     refine wpAnyH_done (by kernel_rfl) ?_ _
     go_wp2
     go_ret
     exact ⟨by rw [f.out]; rfl, B4⟩
  case stp5008_6 =>
   go_simp
   go_wp2_with fail
   (refine (C2.out _ B3).mono ?_; rintro e w4 ⟨rfl, hb4⟩; have B4 : Below w.heap.size w w4 := Below.via hb4 B3 (Nat.le_refl _) rfl rfl rfl rfl)
   go_wp2_with fail
   refine hK.out _ _ ?hSn5015 (fun hHeld2 => ?rest5015)
   case hSn5015 => with_reducible exact hHeld.below hb4
   clear hK K hHeld
   have hHeld := hHeld2
   clear hHeld2
   try simp only [Act.put, a7, b7, c7]
   refine wpAnyH_ready (rs := [3]) (by kernel_rfl) (by simp) ?rdy5016
   refine (AllReadyH.cons (ga7 rfl) (fun K hK => ?stp5016_3) AllReadyH.nil)
   case stp5016_3 =>
    go_simp
    go_wp2_with fail
    refine hK.out _ _ ?hSn5017 (fun hHeld2 => ?rest5017)
    case hSn5017 => (first | with_reducible exact S0.drew | with_reducible exact hHeld | with_reducible exact hHeld.below hb3 | with_reducible exact hHeld.below hb4)
    clear hK K hHeld
    have hHeld := hHeld2
    clear hHeld2
    try simp only [Act.put, a7, b7, c7]
    refine wpAnyH_ready (rs := [7]) (by kernel_rfl) (by simp) ?rdy5018
    refine (AllReadyH.cons (ga7 rfl) (fun K hK => ?stp5018_7) AllReadyH.nil)
    case stp5018_7 =>
     go_simp
     go_wp2_with fail
     refine hK.out _ _ ?hSn5019 (fun hHeld2 => ?rest5019)
     case hSn5019 => (first | with_reducible exact S0.drew | with_reducible exact hHeld | with_reducible exact hHeld.below hb3 | with_reducible exact hHeld.below hb4)
     clear hK K hHeld
     have hHeld := hHeld2
     clear hHeld2
     try simp only [Act.put, a7, b7, c7]
     refine w8 8 ?_ (ga7 rfl) (by kernel_rfl) (fun _ _ _ h => h) ⟨by rfl, ?y5020⟩ hHeld ?_
     case y5020 => (intro wq hSw; (try simp only [Two, P4] at hSw); go_simp; try with_reducible rfl)
     try simp only [Act.put, a7, b7, c7]
     refine wpAnyH_done (by kernel_rfl) ?_ _
     go_wp2
     go_ret
     exact ⟨by rw [f.out]; rfl, B4⟩

theorem pprint_c {v : Bool} {h l b : Int} {a : Nat} (ha : IsNum h l a) (w : World) (hL : LW w) :
  Calls Tryz.prog 8 #[pv v h l b] w fun e w' => e = .returned (.string (prP v a b)) ∧ Below w.heap.size w w' := by
 cases hk : okP v a b
 ·exact pprint_no ha hk w
 ·exact pprint_ok ha hk w hL
end Go.Proofs.YtgbpnekinbdadaaGreatDoor
