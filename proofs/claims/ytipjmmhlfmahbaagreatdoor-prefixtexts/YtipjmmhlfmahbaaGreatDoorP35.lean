/-
  Texts Pfx6 of the proof.
-/
import Derived.Lib.Itoa
import Derived.Test.YtipjmmhlfmahbaaGreatDoorP19
import Derived.Test.YtipjmmhlfmahbaaGreatDoorP34
import Derived.Test.YtipjmmhlfmahbaaGreatDoorP21

namespace Go.Proofs.YtipjmmhlfmahbaaGreatDoor
open Go.ChangeShapes Go.WideShapes Go.ChangeAt Go.RowKit
set_option linter.unusedVariables false
set_option linter.unusedSimpArgs false

/-- The digits of a number of bits. -/
def bitsT (b : Int) : ByteArray := ⟨(Lib.decDigits b.toNat).toArray⟩

/-- A prefix's text. -/
def prP (v : Bool) (a : Nat) (b : Int) : ByteArray := if okP v a b = true then prA v a ++ ⟨#[47]⟩ ++ bitsT b else ⟨#[]⟩

theorem itoa_w {b : Int} (h0 : 0 ≤ b) (h1 : b ≤ 128) (w : World) (hL : LW w) : Calls Tryz.prog 20 #[.int .i64 b] w fun e w' => e = .returned (.string (bitsT b)) ∧ Below w.heap.size w w' := by
  refine (Tryz.strconv_Itoa b (by omega) (by omega) w hL.p10).mono ?_
  rintro e w' ⟨rfl, k, os, rfl⟩
  refine ⟨?_, Lib.below_grow _ _ (Nat.le_refl _) _ _⟩
  congr 2
  unfold bitsT Lib.itoa
  rw [if_neg (by omega)]

set_option maxHeartbeats 800000 in
theorem pprint_no {v : Bool} {h l b : Int} {a : Nat} (ha : IsNum h l a) (hk : okP v a b = false) (w : World) :
    Calls Tryz.prog 7 #[pv v h l b] w fun e w' => e = .returned (.string (prP v a b)) ∧ Below w.heap.size w w' := by
  have f : Hid (prP v a b = ⟨#[]⟩) := by show _ = _; unfold prP; rw [if_neg (by rw [hk]; simp)]
  have R := fun w' => pright_c (v := v) (b := b) ha w'
  rw [hk] at R
  clear hk ha
  go_enter Tryz.func7, Tryz.ntmps7
  go_wp2_with fail
  refine (R _).mono ?_
  rintro e w1 ⟨rfl, hb1⟩
  obtain ⟨hc1, hf1⟩ := bcell hb1
  have hz_w1_0 : w.heap.size < w1.heap.size   := (by have := hb1.size; first | omega | (simp at this; omega))
  clear R
  go_wp2
  go_ret
  exact ⟨by rw [f.out]; rfl, by repeat (first | with_reducible exact Below.refl _ _ | with_reducible refine Below.drew ?_ | with_reducible refine Below.alloc ?_ (by first | omega | (simp <;> omega)) _ | with_reducible refine Below.setCell ?_ (by first | omega | (simp <;> omega)) _ | with_reducible refine Below.trans ?_ (Below.mono hb1 (by first | omega | (simp <;> omega))))⟩

set_option maxRecDepth 100000 in
set_option maxHeartbeats 1600000 in
theorem pprint_ok {v : Bool} {h l b : Int} {a : Nat} (ha : IsNum h l a) (hk : okP v a b = true) (w : World) (hL : LW w) :
    Calls Tryz.prog 7 #[pv v h l b] w fun e w' => e = .returned (.string (prP v a b)) ∧ Below w.heap.size w w' := by
  have hz := hL.sz
  obtain ⟨hf, hm⟩ := okP_parts hk
  obtain ⟨_, h0, h1⟩ := fitsB_parts hf
  have hw := width_le v
  have f : Hid (prP v a b = prA v a ++ ⟨#[47]⟩ ++ bitsT b) := by show _ = _; unfold prP; rw [if_pos hk]
  have R : Hid (∀ w', Calls Tryz.prog 17 #[pv v h l b] w' fun e w1 => e = .returned (.bool true) ∧ Below w'.heap.size w' w1) := fun w' => hk ▸ pright_c ha w'
  have C1 : Hid (∀ w', Below w.heap.size w w' → Calls Tryz.prog 19 #[av v h l] w' fun e w1 => e = .returned (.string (prA v a)) ∧ Below w'.heap.size w' w1) := fun w' hb => aprint_c ha w' (hL.of hb hz)
  have C2 : Hid (∀ w', Below w.heap.size w w' → Calls Tryz.prog 20 #[.int .i64 b] w' fun e w1 => e = .returned (.string (bitsT b)) ∧ Below w'.heap.size w' w1) := fun w' hb => itoa_w h0 (by omega) w' (hL.of hb hz)
  have sX := prA_size v a
  have sY : (bitsT b).size ≤ 20 := by
    have := decDigits_len (n := b.toNat) (by omega)
    unfold bitsT; simp [ByteArray.size]; omega
  generalize prA v a = X at *
  generalize bitsT b = Y at *
  clear hk ha hL hf hm hw h0 h1
  go_enter Tryz.func7, Tryz.ntmps7
  go_wp2_with fail
  refine (R.out _).mono ?_
  rintro e w1 ⟨rfl, hb1⟩
  have A1 : Blk w1 w.heap.size #[.bool v, .int .u64 h, .int .u64 l, .int .i64 b] 28 := (Blk.new _ _ _).below hb1
  have B1 : Below w.heap.size w w1 := by repeat (first | with_reducible exact Below.refl _ _ | with_reducible refine Below.drew ?_ | with_reducible refine Below.alloc ?_ (by first | omega | (simp <;> omega)) _ | with_reducible refine Below.setCell ?_ (by first | omega | (simp <;> omega)) _ | with_reducible refine Below.trans ?_ (Below.mono hb1 (by first | omega | (simp <;> omega))))
  have S0 : P4 w.heap.size v h l b w1 := P4.of A1
  clear R hb1
  go_wp2_with fail
  refine wp_region_held_drew (S := (P4 w.heap.size v h l b)) (by kernel_rfl) ?hS5001 (fun hHeld => ?rest5001)
  case hS5001 => (first | with_reducible exact S0.drew | with_reducible exact hHeld | with_reducible exact hHeld.below hb3 | with_reducible exact hHeld.below hb4)
  refine wpAnyH_take (i := 0) (oi := _) (v := ?v5002) (List.getElem?_toArray.trans rfl) (by kernel_rfl) (by kernel_rfl) (by kernel_rfl) (fun _ _ _ h => h) (Or.inl ⟨by rfl, ?hy5002⟩) (by assumption) ?rest5002
  case hy5002 => (intro wq hSw; (try simp only [Two, P4] at hSw); go_simp; try with_reducible rfl)
  try simp only [Act.put, List.setIfInBounds_toArray, List.set_cons_zero, List.set_cons_succ]
  refine wpAnyH_take (i := 1) (oi := _) (v := ?v5003) (List.getElem?_toArray.trans rfl) (by kernel_rfl) (by kernel_rfl) (by kernel_rfl) (fun _ _ _ h => h) (Or.inl ⟨by rfl, ?hy5003⟩) (by assumption) ?rest5003
  case hy5003 => (intro wq hSw; (try simp only [Two, P4] at hSw); go_simp; try with_reducible rfl)
  try simp only [Act.put, List.setIfInBounds_toArray, List.set_cons_zero, List.set_cons_succ]
  refine wpAnyH_take (i := 4) (oi := _) (v := ?v5004) (List.getElem?_toArray.trans rfl) (by kernel_rfl) (by kernel_rfl) (by kernel_rfl) (fun _ _ _ h => h) (Or.inl ⟨by rfl, ?hy5004⟩) (by assumption) ?rest5004
  case hy5004 => (intro wq hSw; (try simp only [Two, P4] at hSw); go_simp; try with_reducible rfl)
  try simp only [Act.put, List.setIfInBounds_toArray, List.set_cons_zero, List.set_cons_succ]
  refine wpAnyH_take (i := 5) (oi := _) (v := ?v5005) (List.getElem?_toArray.trans rfl) (by kernel_rfl) (by kernel_rfl) (by kernel_rfl) (fun _ _ _ h => h) (Or.inl ⟨by rfl, ?hy5005⟩) (by assumption) ?rest5005
  case hy5005 => (intro wq hSw; (try simp only [Two, P4] at hSw); go_simp; try with_reducible rfl)
  try simp only [Act.put, List.setIfInBounds_toArray, List.set_cons_zero, List.set_cons_succ]
  refine wpAnyH_ready (rs := [2]) (by kernel_rfl) (by simp) ?rdy5006
  refine (AllReadyH.cons (List.getElem?_toArray.trans rfl) (fun K hK => ?stp5006_2) AllReadyH.nil)
  case stp5006_2 =>
    go_simp
    go_wp2_with fail
    (refine (C1.out _ (Below.drew B1)).mono ?_; rintro e w3 ⟨rfl, hb3⟩; have B3 : Below w.heap.size w w3 := Below.via hb3 B1 (Nat.le_refl _) rfl rfl rfl rfl)
    go_wp2_with fail
    refine hK.out _ _ ?hSn5007 (fun hHeld2 => ?rest5007)
    case hSn5007 => (first | with_reducible exact S0.drew | with_reducible exact hHeld | with_reducible exact hHeld.below hb3 | with_reducible exact hHeld.below hb4)
    clear hK K hHeld
    have hHeld := hHeld2
    clear hHeld2
    try simp only [Act.put, List.setIfInBounds_toArray, List.set_cons_zero, List.set_cons_succ]
    refine wpAnyH_ready (rs := [3, 6]) (by kernel_rfl) (by simp) ?rdy5008
    refine (AllReadyH.cons (List.getElem?_toArray.trans rfl) (fun K hK => ?stp5008_3) (AllReadyH.cons (List.getElem?_toArray.trans rfl) (fun K hK => ?stp5008_6) AllReadyH.nil))
    case stp5008_3 =>
      go_simp
      go_wp2_with fail
      refine hK.out _ _ ?hSn5009 (fun hHeld2 => ?rest5009)
      case hSn5009 => (first | with_reducible exact S0.drew | with_reducible exact hHeld | with_reducible exact hHeld.below hb3 | with_reducible exact hHeld.below hb4)
      clear hK K hHeld
      have hHeld := hHeld2
      clear hHeld2
      try simp only [Act.put, List.setIfInBounds_toArray, List.set_cons_zero, List.set_cons_succ]
      refine wpAnyH_ready (rs := [6]) (by kernel_rfl) (by simp) ?rdy5010
      refine (AllReadyH.cons (List.getElem?_toArray.trans rfl) (fun K hK => ?stp5010_6) AllReadyH.nil)
      case stp5010_6 =>
        go_simp
        go_wp2_with fail
        (refine (C2.out _ B3).mono ?_; rintro e w4 ⟨rfl, hb4⟩; have B4 : Below w.heap.size w w4 := Below.via hb4 B3 (Nat.le_refl _) rfl rfl rfl rfl)
        go_wp2_with fail
        refine hK.out _ _ ?hSn5011 (fun hHeld2 => ?rest5011)
        case hSn5011 => (first | with_reducible exact S0.drew | with_reducible exact hHeld | with_reducible exact hHeld.below hb3 | with_reducible exact hHeld.below hb4)
        clear hK K hHeld
        have hHeld := hHeld2
        clear hHeld2
        try simp only [Act.put, List.setIfInBounds_toArray, List.set_cons_zero, List.set_cons_succ]
        refine wpAnyH_ready (rs := [7]) (by kernel_rfl) (by simp) ?rdy5012
        refine (AllReadyH.cons (List.getElem?_toArray.trans rfl) (fun K hK => ?stp5012_7) AllReadyH.nil)
        case stp5012_7 =>
          go_simp
          go_wp2_with fail
          refine hK.out _ _ ?hSn5013 (fun hHeld2 => ?rest5013)
          case hSn5013 => (first | with_reducible exact S0.drew | with_reducible exact hHeld | with_reducible exact hHeld.below hb3 | with_reducible exact hHeld.below hb4)
          clear hK K hHeld
          have hHeld := hHeld2
          clear hHeld2
          try simp only [Act.put, List.setIfInBounds_toArray, List.set_cons_zero, List.set_cons_succ]
          refine wpAnyH_take (i := 8) (oi := _) (v := ?v5014) (List.getElem?_toArray.trans rfl) (by kernel_rfl) (by kernel_rfl) (by kernel_rfl) (fun _ _ _ h => h) (Or.inl ⟨by rfl, ?hy5014⟩) (by assumption) ?rest5014
          case hy5014 => (intro wq hSw; (try simp only [Two, P4] at hSw); go_simp; try with_reducible rfl)
          try simp only [Act.put, List.setIfInBounds_toArray, List.set_cons_zero, List.set_cons_succ]
          refine wpAnyH_done (by kernel_rfl) ?_ _
          go_wp2
          go_ret
          exact ⟨by rw [f.out]; rfl, B4⟩
    case stp5008_6 =>
      go_simp
      go_wp2_with fail
      (refine (C2.out _ B3).mono ?_; rintro e w4 ⟨rfl, hb4⟩; have B4 : Below w.heap.size w w4 := Below.via hb4 B3 (Nat.le_refl _) rfl rfl rfl rfl)
      go_wp2_with fail
      refine hK.out _ _ ?hSn5015 (fun hHeld2 => ?rest5015)
      case hSn5015 => (first | with_reducible exact S0.drew | with_reducible exact hHeld | with_reducible exact hHeld.below hb3 | with_reducible exact hHeld.below hb4)
      clear hK K hHeld
      have hHeld := hHeld2
      clear hHeld2
      try simp only [Act.put, List.setIfInBounds_toArray, List.set_cons_zero, List.set_cons_succ]
      refine wpAnyH_ready (rs := [3]) (by kernel_rfl) (by simp) ?rdy5016
      refine (AllReadyH.cons (List.getElem?_toArray.trans rfl) (fun K hK => ?stp5016_3) AllReadyH.nil)
      case stp5016_3 =>
        go_simp
        go_wp2_with fail
        refine hK.out _ _ ?hSn5017 (fun hHeld2 => ?rest5017)
        case hSn5017 => (first | with_reducible exact S0.drew | with_reducible exact hHeld | with_reducible exact hHeld.below hb3 | with_reducible exact hHeld.below hb4)
        clear hK K hHeld
        have hHeld := hHeld2
        clear hHeld2
        try simp only [Act.put, List.setIfInBounds_toArray, List.set_cons_zero, List.set_cons_succ]
        refine wpAnyH_ready (rs := [7]) (by kernel_rfl) (by simp) ?rdy5018
        refine (AllReadyH.cons (List.getElem?_toArray.trans rfl) (fun K hK => ?stp5018_7) AllReadyH.nil)
        case stp5018_7 =>
          go_simp
          go_wp2_with fail
          refine hK.out _ _ ?hSn5019 (fun hHeld2 => ?rest5019)
          case hSn5019 => (first | with_reducible exact S0.drew | with_reducible exact hHeld | with_reducible exact hHeld.below hb3 | with_reducible exact hHeld.below hb4)
          clear hK K hHeld
          have hHeld := hHeld2
          clear hHeld2
          try simp only [Act.put, List.setIfInBounds_toArray, List.set_cons_zero, List.set_cons_succ]
          refine wpAnyH_take (i := 8) (oi := _) (v := ?v5020) (List.getElem?_toArray.trans rfl) (by kernel_rfl) (by kernel_rfl) (by kernel_rfl) (fun _ _ _ h => h) (Or.inl ⟨by rfl, ?hy5020⟩) (by assumption) ?rest5020
          case hy5020 => (intro wq hSw; (try simp only [Two, P4] at hSw); go_simp; try with_reducible rfl)
          try simp only [Act.put, List.setIfInBounds_toArray, List.set_cons_zero, List.set_cons_succ]
          refine wpAnyH_done (by kernel_rfl) ?_ _
          go_wp2
          go_ret
          exact ⟨by rw [f.out]; rfl, B4⟩

theorem pprint_c {v : Bool} {h l b : Int} {a : Nat} (ha : IsNum h l a) (w : World) (hL : LW w) :
    Calls Tryz.prog 7 #[pv v h l b] w fun e w' => e = .returned (.string (prP v a b)) ∧ Below w.heap.size w w' := by
  cases hk : okP v a b
  · exact pprint_no ha hk w
  · exact pprint_ok ha hk w hL
end Go.Proofs.YtipjmmhlfmahbaaGreatDoor
