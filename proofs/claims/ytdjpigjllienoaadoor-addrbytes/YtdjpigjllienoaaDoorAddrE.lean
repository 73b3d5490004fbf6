/-
  What OfBytes of package addr returns, for every string.
-/
import Derived.Test.YtdjpigjllienoaaDoorAddrD
import Derived.Test.YtdjpigjllienoaaDoorBlk
import Derived.Test.YtdjpigjllienoaaDoorTextMath
import Derived.Deep.RegionHeld
namespace Go.Proofs.YtdjpigjllienoaaDoor
open Go.ChangeShapes Go.WideShapes Go.ChangeAt Go.RowKit
set_option linter.unusedVariables false
set_option linter.unusedSimpArgs false

/-- The number that the first k bytes make, the highest first. -/
def valB (s : ByteArray) : Nat → Nat
  | 0 => 0
  | k + 1 => valB s k * 256 + byteN s k

theorem valB_lt (s : ByteArray) : ∀ k, valB s k < 256 ^ k
  | 0 => by simp [valB]
  | k + 1 => by
    have h := valB_lt s k
    have b := byteN_lt s k
    rw [Nat.pow_succ]
    simp only [valB]
    omega

/-- What the loop of OfBytes keeps. -/
def OB (w : World) (h l : Int) (wr : World) : Prop :=
  Blk wr w.heap.size #[.bool false, .int .u64 0, .int .u64 0] 26 ∧ Blk wr (w.heap.size + 1) #[.int .u64 h, .int .u64 l] 24 ∧ Below w.heap.size w wr

theorem OB.via {w W W0 w1 : World} {h l : Int} (hb : Below W.heap.size W w1) (s : OB w h l W0) (e : W.heap = W0.heap) (e1 : W.os = W0.os) (e2 : W.tape = W0.tape) (e3 : W.output = W0.output) : OB w h l w1 :=
  ⟨s.1.via hb e, s.2.1.via hb e, Below.via hb s.2.2 (Nat.le_refl _) e e1 e2 e3⟩

theorem OB.put {w W : World} {h l : Int} (s : OB w h l W) (h' l' : Int) : OB w h' l' ((W.setCell ⟨w.heap.size + 1, 0, none⟩ (.int .u64 h')).setCell ⟨w.heap.size + 1, 1, none⟩ (.int .u64 l')) :=
  ⟨s.1.far2 (by omega) _ _, s.2.1.put2 _ _, (s.2.2.setCell (by show _ ≤ w.heap.size + 1; omega) _).setCell (by show _ ≤ w.heap.size + 1; omega) _⟩

set_option maxHeartbeats 800000 in
theorem ofbytes_bad (s : ByteArray) (h4 : s.size ≠ 4) (h16 : s.size ≠ 16) (w : World) :
    Calls Tryd.prog 8 #[.string s] w fun e w' => e = .returned (.tuple #[av false 0 0, .int .i64 4]) ∧ Below w.heap.size w w' := by
  have e1 : ((s.size : Int) != 4) = true := by simp [bne]; omega
  have e2 : ((s.size : Int) != 16) = true := by simp [bne]; omega
  have e3 : ((s.size : Int) == 4) = false := by rw [beq_eq_false_iff_ne]; omega
  have e4 : ((s.size : Int) == 16) = false := by rw [beq_eq_false_iff_ne]; omega
  clear h4 h16
  go_enter Tryd.func8, Tryd.ntmps8
  go_wp2
  refine bodyPost_ret (v := .tuple #[av false 0 0, .int .i64 4]) (by simp [results, Tryd.results8, go_sem]) rfl ⟨rfl, by repeat (first | with_reducible exact Below.refl _ _ | with_reducible refine Below.drew ?_ | with_reducible refine Below.alloc ?_ (by first | omega | (simp <;> omega)) _ | with_reducible refine Below.setCell ?_ (by first | omega | (simp <;> omega)) _)⟩

set_option maxRecDepth 100000 in
set_option maxHeartbeats 800000 in
theorem ofbytes_4 (s : ByteArray) (hsz : s.size ≤ 16) (b16 : Bool) (e4 : ((s.size : Int) == 16) = b16) (c1 : ((s.size : Int) != 4) = false) (c2 : ((s.size : Int) != 16) = true) (w : World) :
    Calls Tryd.prog 8 #[.string s] w fun e w' => ∃ h l, e = .returned (.tuple #[av b16 h l, .int .i64 0]) ∧ IsNum h l (valB s s.size) ∧ Below w.heap.size w w' := by
  have z : IsNum 0 0 (valB s 0) := ⟨by omega, by omega, by omega, by omega, rfl⟩
  have T0 : OB w 0 0 ((w.alloc (.cells #[.bool false, .int .u64 0, .int .u64 0] 26)).alloc (.cells #[.int .u64 0, .int .u64 0] 24)) :=
    ⟨(Blk.new _ _ _).alloc _, by simpa using Blk.new (w.alloc (.cells #[.bool false, .int .u64 0, .int .u64 0] 26)) #[.int .u64 0, .int .u64 0] 24, by repeat (first | with_reducible exact Below.refl _ _ | with_reducible refine Below.drew ?_ | with_reducible refine Below.alloc ?_ (by first | omega | (simp <;> omega)) _ | with_reducible refine Below.setCell ?_ (by first | omega | (simp <;> omega)) _)⟩
  go_enter Tryd.func8, Tryd.ntmps8
  go_wp2_with fail
  go_loopw [17] (fun t wr => ∃ (k : Nat) (h l : Int), k ≤ s.size ∧ t = .int .i64 k ∧ IsNum h l (valB s k) ∧ OB w h l wr) (fun t _ => s.size - (intOf t).toNat)
  case atStart => exact ⟨0, 0, 0, Nat.zero_le _, rfl, z, T0⟩
  case round =>
    clear T0 z
    obtain ⟨k, h, l, hk, rfl, hv, S⟩ := hrel
    by_cases hlt : k < s.size
    · have hki : (k : Int) < (s.size : Int) := by omega
      have bl := byteN_lt s k
      have bg := byteN_get s k hlt
      have vl := valB_lt s k
      have vl2 : 256 ^ k ≤ 256 ^ 15 := Nat.pow_le_pow_right (by decide) (by omega)
      have vl3 : (256 : Nat) ^ 15 = 1329227995784915872903807060280344576 := by decide
      obtain ⟨sh, sl, hs⟩ := IsNum.ex (n := valB s k * 2 ^ (8 : Int).toNat % 340282366920938463463374607431768211456) (Nat.mod_lt _ (by decide))
      obtain ⟨c, hc⟩ : ∃ c : Nat, byteN s k = c := ⟨_, rfl⟩
      have up : valB s (k + 1) = valB s k * 256 + c := by rw [← hc]; rfl
      rw [hc] at bg bl
      have hcn : IsNum 0 (c : Int) c := ⟨by omega, by omega, by omega, by omega, by omega⟩
      have hs' : IsNum sh sl (valB s k * 256) := hs.cast (by rw [show 2 ^ (8 : Int).toNat = 256 from rfl]; omega)
      obtain ⟨rh, rl, hr⟩ := IsNum.ex (n := valB s k * 256 + c) (by omega)
      have hor : valB s k * 256 ||| c = valB s k * 256 + c := by
        have := or_add 8 (valB s k) c (by simpa using bl)
        rwa [show (2 : Nat) ^ 8 = 256 by decide, Nat.mul_comm 256] at this
      have C1 : Hid (∀ w, Calls Tryd.prog 21 #[nv h l, .int .i64 8] w fun e w' => e = .returned (nv sh sl) ∧ Below w.heap.size w w') := fun w => shl_is hv (by omega) hs w
      have C3 : (∀ w, Calls Tryd.prog 20 #[nv sh sl, nv 0 (c : Int)] w fun e w' => e = .returned (nv rh rl) ∧ Below w.heap.size w w') := fun w => or_is hs' hcn (hr.cast hor.symm) w
      have good : Hid (IsNum rh rl (valB s (k + 1))) := hr.cast up.symm
      obtain ⟨d, hd⟩ : ∃ d : Int, d = (c : Int) := ⟨_, rfl⟩
      have bgi : (s[k].toNat : Int) = d := by rw [bg, hd]
      have d0 : 0 ≤ d := by omega
      have d1 : d < 256 := by omega
      have hw64 : IntKind.u64.wrap d = d := by rw [IntKind.wrap_u64]; omega
      rw [← hd] at C3
      have C3' : Hid _ := C3
      clear C3 hd bg bl vl vl2 vl3 hs hs' hcn hr hor hc up hv
      obtain ⟨O0, O1, O2, O3, O4⟩ := S.2.1.two
      go_wp2_with fail
      refine wp_region_held_drew (S := fun _ => True) (by kernel_rfl) trivial (fun hHeld => ?_)
      refine wpAnyH_take (i := 2) (oi := _) (v := ?v1) (List.getElem?_toArray.trans rfl) (by kernel_rfl) (by kernel_rfl) (by kernel_rfl) (fun _ _ _ h => h) (Or.inl ⟨by rfl, ?hy1⟩) (by assumption) ?rest1
      case hy1 => (intro wq hSw; go_simp; try with_reducible rfl)
      try simp only [Act.put, List.setIfInBounds_toArray, List.set_cons_zero, List.set_cons_succ]
      refine wpAnyH_take (i := 3) (oi := _) (v := ?v2) (List.getElem?_toArray.trans rfl) (by kernel_rfl) (by kernel_rfl) (by kernel_rfl) (fun _ _ _ h => h) (Or.inl ⟨by rfl, ?hy2⟩) (by assumption) ?rest2
      case hy2 => (intro wq hSw; go_simp; try with_reducible rfl)
      try simp only [Act.put, List.setIfInBounds_toArray, List.set_cons_zero, List.set_cons_succ]
      refine wpAnyH_take (i := 4) (oi := _) (v := ?v3) (List.getElem?_toArray.trans rfl) (by kernel_rfl) (by kernel_rfl) (by kernel_rfl) (fun _ _ _ h => h) (Or.inl ⟨by rfl, ?hy3⟩) (by assumption) ?rest3
      case hy3 => (intro wq hSw; go_simp; try with_reducible rfl)
      try simp only [Act.put, List.setIfInBounds_toArray, List.set_cons_zero, List.set_cons_succ]
      refine wpAnyH_take (i := 5) (oi := _) (v := ?v4) (List.getElem?_toArray.trans rfl) (by kernel_rfl) (by kernel_rfl) (by kernel_rfl) (fun _ _ _ h => h) (Or.inl ⟨by rfl, ?hy4⟩) (by assumption) ?rest4
      case hy4 => (intro wq hSw; go_simp; try with_reducible rfl)
      try simp only [Act.put, List.setIfInBounds_toArray, List.set_cons_zero, List.set_cons_succ]
      refine wpAnyH_ready (rs := [0]) (by kernel_rfl) (by simp) ?rdy5
      refine (AllReadyH.cons (List.getElem?_toArray.trans rfl) (fun K hK => ?stp5_0) AllReadyH.nil)
      case stp5_0 =>
        go_simp
        go_wp2_with fail
        refine hK.out _ _ trivial (fun hHeld2 => ?_)
        clear hK K hHeld2
        try simp only [Act.put, List.setIfInBounds_toArray, List.set_cons_zero, List.set_cons_succ]
        refine wpAnyH_ready (rs := [1]) (by kernel_rfl) (by simp) ?rdy6
        refine (AllReadyH.cons (List.getElem?_toArray.trans rfl) (fun K hK => ?stp6_1) AllReadyH.nil)
        case stp6_1 =>
          go_simp
          go_wp2_with fail
          (refine (C1.out _).mono ?_; rintro e w3 ⟨rfl, hb3⟩; obtain ⟨hc3, hf3⟩ := bcellv (W0 := wr) hb3 rfl; have hz_w3_0 : w.heap.size < w3.heap.size   := (by have := hb3.size; first | omega | (simp at this; omega)); have hz_w3_1 : w.heap.size + 1 < w3.heap.size   := (by have := hb3.size; first | omega | (simp at this; omega)))
          go_wp2_with fail
          refine hK.out _ _ trivial (fun hHeld2 => ?_)
          clear hK K hHeld2
          try simp only [Act.put, List.setIfInBounds_toArray, List.set_cons_zero, List.set_cons_succ]
          refine wpAnyH_ready (rs := [6]) (by kernel_rfl) (by simp) ?rdy7
          refine (AllReadyH.cons (List.getElem?_toArray.trans rfl) (fun K hK => ?stp7_6) AllReadyH.nil)
          case stp7_6 =>
            go_simp
            go_wp2_with fail
            (refine (of_w _ _).mono ?_; rintro e w4 ⟨rfl, hb4⟩; obtain ⟨hc4, hf4⟩ := bcell hb4; have hz_w4_0 : w.heap.size < w4.heap.size   := (by have := hb4.size; first | omega | (simp at this; omega)); have hz_w4_1 : w.heap.size + 1 < w4.heap.size   := (by have := hb4.size; first | omega | (simp at this; omega)))
            go_wp2_with fail
            refine hK.out _ _ trivial (fun hHeld2 => ?_)
            clear hK K hHeld2
            try simp only [Act.put, List.setIfInBounds_toArray, List.set_cons_zero, List.set_cons_succ]
            refine wpAnyH_ready (rs := [7]) (by kernel_rfl) (by simp) ?rdy8
            refine (AllReadyH.cons (List.getElem?_toArray.trans rfl) (fun K hK => ?stp8_7) AllReadyH.nil)
            case stp8_7 =>
              go_simp
              go_wp2_with fail
              (refine (C3'.out _).mono ?_; rintro e w5 ⟨rfl, hb5⟩; obtain ⟨hc5, hf5⟩ := bcell hb5; have hz_w5_0 : w.heap.size < w5.heap.size   := (by have := hb5.size; first | omega | (simp at this; omega)); have hz_w5_1 : w.heap.size + 1 < w5.heap.size   := (by have := hb5.size; first | omega | (simp at this; omega)))
              go_wp2_with fail
              refine hK.out _ _ trivial (fun hHeld2 => ?_)
              clear hK K hHeld2
              try simp only [Act.put, List.setIfInBounds_toArray, List.set_cons_zero, List.set_cons_succ]
              refine wpAnyH_ready (rs := [8]) (by kernel_rfl) (by simp) ?rdy9
              refine (AllReadyH.cons (List.getElem?_toArray.trans rfl) (fun K hK => ?stp9_8) AllReadyH.nil)
              case stp9_8 =>
                go_simp
                go_wp2_with fail
                refine hK.out _ _ trivial (fun hHeld2 => ?_)
                clear hK K hHeld2
                try simp only [Act.put, List.setIfInBounds_toArray, List.set_cons_zero, List.set_cons_succ]
                refine wpAnyH_done (by kernel_rfl) ?_ _
                go_wp2
                go_roundw
                case measure => simp [intOf]; omega
                case rel => exact ⟨k + 1, rh, rl, by omega, by go_num, good.out, OB.put (OB.via hb5 (OB.via hb4 (OB.via hb3 S rfl rfl rfl rfl) rfl rfl rfl rfl) rfl rfl rfl rfl) rh rl⟩
    · have hki : ¬ (k : Int) < (s.size : Int) := by omega
      have hv' : Hid (IsNum h l (valB s s.size)) := hv.cast (by rw [show k = s.size by omega])
      obtain ⟨O0, O1, O2, O3, O4⟩ := S.2.1.two
      obtain ⟨R0, R1, R2, R3, R4, R5, R6⟩ := S.1.three
      have hBc := S.2.2
      clear hv
      go_wp2
      refine bodyPost_ret (v := .tuple #[av b16 h l, .int .i64 0]) (by simp [results, Tryd.results8, go_sem, World.cell?_setCell_same', World.cell?_setCell_other, R0, R1, R2]) rfl ⟨h, l, rfl, hv'.out, by repeat (first | with_reducible exact Below.refl _ _ | with_reducible refine Below.drew ?_ | with_reducible refine Below.alloc ?_ (by first | omega | (simp <;> omega)) _ | with_reducible refine Below.setCell ?_ (by first | omega | (simp <;> omega)) _ | with_reducible refine Below.trans ?_ (Below.mono hBc (by first | omega | (simp <;> omega))))⟩

set_option maxRecDepth 100000 in
set_option maxHeartbeats 800000 in
theorem ofbytes_16 (s : ByteArray) (hsz : s.size ≤ 16) (b16 : Bool) (e4 : ((s.size : Int) == 16) = b16) (c1 : ((s.size : Int) != 4) = true) (c2 : ((s.size : Int) != 16) = false) (w : World) :
    Calls Tryd.prog 8 #[.string s] w fun e w' => ∃ h l, e = .returned (.tuple #[av b16 h l, .int .i64 0]) ∧ IsNum h l (valB s s.size) ∧ Below w.heap.size w w' := by
  have z : IsNum 0 0 (valB s 0) := ⟨by omega, by omega, by omega, by omega, rfl⟩
  have T0 : OB w 0 0 ((w.alloc (.cells #[.bool false, .int .u64 0, .int .u64 0] 26)).alloc (.cells #[.int .u64 0, .int .u64 0] 24)) :=
    ⟨(Blk.new _ _ _).alloc _, by simpa using Blk.new (w.alloc (.cells #[.bool false, .int .u64 0, .int .u64 0] 26)) #[.int .u64 0, .int .u64 0] 24, by repeat (first | with_reducible exact Below.refl _ _ | with_reducible refine Below.drew ?_ | with_reducible refine Below.alloc ?_ (by first | omega | (simp <;> omega)) _ | with_reducible refine Below.setCell ?_ (by first | omega | (simp <;> omega)) _)⟩
  go_enter Tryd.func8, Tryd.ntmps8
  go_wp2_with fail
  go_loopw [17] (fun t wr => ∃ (k : Nat) (h l : Int), k ≤ s.size ∧ t = .int .i64 k ∧ IsNum h l (valB s k) ∧ OB w h l wr) (fun t _ => s.size - (intOf t).toNat)
  case atStart => exact ⟨0, 0, 0, Nat.zero_le _, rfl, z, T0⟩
  case round =>
    clear T0 z
    obtain ⟨k, h, l, hk, rfl, hv, S⟩ := hrel
    by_cases hlt : k < s.size
    · have hki : (k : Int) < (s.size : Int) := by omega
      have bl := byteN_lt s k
      have bg := byteN_get s k hlt
      have vl := valB_lt s k
      have vl2 : 256 ^ k ≤ 256 ^ 15 := Nat.pow_le_pow_right (by decide) (by omega)
      have vl3 : (256 : Nat) ^ 15 = 1329227995784915872903807060280344576 := by decide
      obtain ⟨sh, sl, hs⟩ := IsNum.ex (n := valB s k * 2 ^ (8 : Int).toNat % 340282366920938463463374607431768211456) (Nat.mod_lt _ (by decide))
      obtain ⟨c, hc⟩ : ∃ c : Nat, byteN s k = c := ⟨_, rfl⟩
      have up : valB s (k + 1) = valB s k * 256 + c := by rw [← hc]; rfl
      rw [hc] at bg bl
      have hcn : IsNum 0 (c : Int) c := ⟨by omega, by omega, by omega, by omega, by omega⟩
      have hs' : IsNum sh sl (valB s k * 256) := hs.cast (by rw [show 2 ^ (8 : Int).toNat = 256 from rfl]; omega)
      obtain ⟨rh, rl, hr⟩ := IsNum.ex (n := valB s k * 256 + c) (by omega)
      have hor : valB s k * 256 ||| c = valB s k * 256 + c := by
        have := or_add 8 (valB s k) c (by simpa using bl)
        rwa [show (2 : Nat) ^ 8 = 256 by decide, Nat.mul_comm 256] at this
      have C1 : Hid (∀ w, Calls Tryd.prog 21 #[nv h l, .int .i64 8] w fun e w' => e = .returned (nv sh sl) ∧ Below w.heap.size w w') := fun w => shl_is hv (by omega) hs w
      have C3 : (∀ w, Calls Tryd.prog 20 #[nv sh sl, nv 0 (c : Int)] w fun e w' => e = .returned (nv rh rl) ∧ Below w.heap.size w w') := fun w => or_is hs' hcn (hr.cast hor.symm) w
      have good : Hid (IsNum rh rl (valB s (k + 1))) := hr.cast up.symm
      obtain ⟨d, hd⟩ : ∃ d : Int, d = (c : Int) := ⟨_, rfl⟩
      have bgi : (s[k].toNat : Int) = d := by rw [bg, hd]
      have d0 : 0 ≤ d := by omega
      have d1 : d < 256 := by omega
      have hw64 : IntKind.u64.wrap d = d := by rw [IntKind.wrap_u64]; omega
      rw [← hd] at C3
      have C3' : Hid _ := C3
      clear C3 hd bg bl vl vl2 vl3 hs hs' hcn hr hor hc up hv
      obtain ⟨O0, O1, O2, O3, O4⟩ := S.2.1.two
      go_wp2_with fail
      refine wp_region_held_drew (S := fun _ => True) (by kernel_rfl) trivial (fun hHeld => ?_)
      refine wpAnyH_take (i := 2) (oi := _) (v := ?v10) (List.getElem?_toArray.trans rfl) (by kernel_rfl) (by kernel_rfl) (by kernel_rfl) (fun _ _ _ h => h) (Or.inl ⟨by rfl, ?hy10⟩) (by assumption) ?rest10
      case hy10 => (intro wq hSw; go_simp; try with_reducible rfl)
      try simp only [Act.put, List.setIfInBounds_toArray, List.set_cons_zero, List.set_cons_succ]
      refine wpAnyH_take (i := 3) (oi := _) (v := ?v11) (List.getElem?_toArray.trans rfl) (by kernel_rfl) (by kernel_rfl) (by kernel_rfl) (fun _ _ _ h => h) (Or.inl ⟨by rfl, ?hy11⟩) (by assumption) ?rest11
      case hy11 => (intro wq hSw; go_simp; try with_reducible rfl)
      try simp only [Act.put, List.setIfInBounds_toArray, List.set_cons_zero, List.set_cons_succ]
      refine wpAnyH_take (i := 4) (oi := _) (v := ?v12) (List.getElem?_toArray.trans rfl) (by kernel_rfl) (by kernel_rfl) (by kernel_rfl) (fun _ _ _ h => h) (Or.inl ⟨by rfl, ?hy12⟩) (by assumption) ?rest12
      case hy12 => (intro wq hSw; go_simp; try with_reducible rfl)
      try simp only [Act.put, List.setIfInBounds_toArray, List.set_cons_zero, List.set_cons_succ]
      refine wpAnyH_take (i := 5) (oi := _) (v := ?v13) (List.getElem?_toArray.trans rfl) (by kernel_rfl) (by kernel_rfl) (by kernel_rfl) (fun _ _ _ h => h) (Or.inl ⟨by rfl, ?hy13⟩) (by assumption) ?rest13
      case hy13 => (intro wq hSw; go_simp; try with_reducible rfl)
      try simp only [Act.put, List.setIfInBounds_toArray, List.set_cons_zero, List.set_cons_succ]
      refine wpAnyH_ready (rs := [0]) (by kernel_rfl) (by simp) ?rdy14
      refine (AllReadyH.cons (List.getElem?_toArray.trans rfl) (fun K hK => ?stp14_0) AllReadyH.nil)
      case stp14_0 =>
        go_simp
        go_wp2_with fail
        refine hK.out _ _ trivial (fun hHeld2 => ?_)
        clear hK K hHeld2
        try simp only [Act.put, List.setIfInBounds_toArray, List.set_cons_zero, List.set_cons_succ]
        refine wpAnyH_ready (rs := [1]) (by kernel_rfl) (by simp) ?rdy15
        refine (AllReadyH.cons (List.getElem?_toArray.trans rfl) (fun K hK => ?stp15_1) AllReadyH.nil)
        case stp15_1 =>
          go_simp
          go_wp2_with fail
          (refine (C1.out _).mono ?_; rintro e w3 ⟨rfl, hb3⟩; obtain ⟨hc3, hf3⟩ := bcellv (W0 := wr) hb3 rfl; have hz_w3_0 : w.heap.size < w3.heap.size   := (by have := hb3.size; first | omega | (simp at this; omega)); have hz_w3_1 : w.heap.size + 1 < w3.heap.size   := (by have := hb3.size; first | omega | (simp at this; omega)))
          go_wp2_with fail
          refine hK.out _ _ trivial (fun hHeld2 => ?_)
          clear hK K hHeld2
          try simp only [Act.put, List.setIfInBounds_toArray, List.set_cons_zero, List.set_cons_succ]
          refine wpAnyH_ready (rs := [6]) (by kernel_rfl) (by simp) ?rdy16
          refine (AllReadyH.cons (List.getElem?_toArray.trans rfl) (fun K hK => ?stp16_6) AllReadyH.nil)
          case stp16_6 =>
            go_simp
            go_wp2_with fail
            (refine (of_w _ _).mono ?_; rintro e w4 ⟨rfl, hb4⟩; obtain ⟨hc4, hf4⟩ := bcell hb4; have hz_w4_0 : w.heap.size < w4.heap.size   := (by have := hb4.size; first | omega | (simp at this; omega)); have hz_w4_1 : w.heap.size + 1 < w4.heap.size   := (by have := hb4.size; first | omega | (simp at this; omega)))
            go_wp2_with fail
            refine hK.out _ _ trivial (fun hHeld2 => ?_)
            clear hK K hHeld2
            try simp only [Act.put, List.setIfInBounds_toArray, List.set_cons_zero, List.set_cons_succ]
            refine wpAnyH_ready (rs := [7]) (by kernel_rfl) (by simp) ?rdy17
            refine (AllReadyH.cons (List.getElem?_toArray.trans rfl) (fun K hK => ?stp17_7) AllReadyH.nil)
            case stp17_7 =>
              go_simp
              go_wp2_with fail
              (refine (C3'.out _).mono ?_; rintro e w5 ⟨rfl, hb5⟩; obtain ⟨hc5, hf5⟩ := bcell hb5; have hz_w5_0 : w.heap.size < w5.heap.size   := (by have := hb5.size; first | omega | (simp at this; omega)); have hz_w5_1 : w.heap.size + 1 < w5.heap.size   := (by have := hb5.size; first | omega | (simp at this; omega)))
              go_wp2_with fail
              refine hK.out _ _ trivial (fun hHeld2 => ?_)
              clear hK K hHeld2
              try simp only [Act.put, List.setIfInBounds_toArray, List.set_cons_zero, List.set_cons_succ]
              refine wpAnyH_ready (rs := [8]) (by kernel_rfl) (by simp) ?rdy18
              refine (AllReadyH.cons (List.getElem?_toArray.trans rfl) (fun K hK => ?stp18_8) AllReadyH.nil)
              case stp18_8 =>
                go_simp
                go_wp2_with fail
                refine hK.out _ _ trivial (fun hHeld2 => ?_)
                clear hK K hHeld2
                try simp only [Act.put, List.setIfInBounds_toArray, List.set_cons_zero, List.set_cons_succ]
                refine wpAnyH_done (by kernel_rfl) ?_ _
                go_wp2
                go_roundw
                case measure => simp [intOf]; omega
                case rel => exact ⟨k + 1, rh, rl, by omega, by go_num, good.out, OB.put (OB.via hb5 (OB.via hb4 (OB.via hb3 S rfl rfl rfl rfl) rfl rfl rfl rfl) rfl rfl rfl rfl) rh rl⟩
    · have hki : ¬ (k : Int) < (s.size : Int) := by omega
      have hv' : Hid (IsNum h l (valB s s.size)) := hv.cast (by rw [show k = s.size by omega])
      obtain ⟨O0, O1, O2, O3, O4⟩ := S.2.1.two
      obtain ⟨R0, R1, R2, R3, R4, R5, R6⟩ := S.1.three
      have hBc := S.2.2
      clear hv
      go_wp2
      refine bodyPost_ret (v := .tuple #[av b16 h l, .int .i64 0]) (by simp [results, Tryd.results8, go_sem, World.cell?_setCell_same', World.cell?_setCell_other, R0, R1, R2]) rfl ⟨h, l, rfl, hv'.out, by repeat (first | with_reducible exact Below.refl _ _ | with_reducible refine Below.drew ?_ | with_reducible refine Below.alloc ?_ (by first | omega | (simp <;> omega)) _ | with_reducible refine Below.setCell ?_ (by first | omega | (simp <;> omega)) _ | with_reducible refine Below.trans ?_ (Below.mono hBc (by first | omega | (simp <;> omega))))⟩

theorem ofbytes_c (s : ByteArray) (h4 : s.size = 4 ∨ s.size = 16) (w : World) :
    Calls Tryd.prog 8 #[.string s] w fun e w' => ∃ h l, e = .returned (.tuple #[av (decide (s.size = 16)) h l, .int .i64 0]) ∧ IsNum h l (valB s s.size) ∧ Below w.heap.size w w' := by
  have e4 : ((s.size : Int) == 16) = decide (s.size = 16) := by rw [Bool.eq_iff_iff]; simp; omega
  rcases h4 with h | h
  · exact ofbytes_4 s (by omega) _ e4 (by simp [h]) (by simp [h]) w
  · exact ofbytes_16 s (by omega) _ e4 (by simp [h]) (by simp [h]) w
end Go.Proofs.YtdjpigjllienoaaDoor
