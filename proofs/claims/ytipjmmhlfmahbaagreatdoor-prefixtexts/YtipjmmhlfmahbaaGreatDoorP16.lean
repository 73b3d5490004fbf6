/-
  Texts Read2, Read3 of the proof.
-/
import Derived.Deep.DeepCutAuto
import Derived.Outline
import Derived.Test.YtipjmmhlfmahbaaGreatDoorP13
import Derived.Test.YtipjmmhlfmahbaaGreatDoorP15

namespace Go.Proofs.YtipjmmhlfmahbaaGreatDoor
open Go.ChangeShapes Go.WideShapes Go.ChangeAt Go.RowKit
set_option linter.unusedVariables false
set_option linter.unusedSimpArgs false

/-- What num.Parse answers of a part: a number below 256 or something else. -/
def PartIs (l : List UInt8) (vh vl ec : Int) : Prop :=
  (ec = 0 ∧ ∃ n, IsNum vh vl n ∧ decV l = (if n < 256 then some n else none)) ∨ (ec ≠ 0 ∧ decV l = none)

theorem part_c (t : ByteArray) (hs : t.size ≤ 1000000) (w : World) :
    Calls Tryz.prog 13 #[.string t] w fun e w' => ∃ vh vl ec : Int, e = .returned (.tuple #[nv vh vl, .int .i64 ec]) ∧ PartIs t.data.toList vh vl ec ∧ Below w.heap.size w w' := by
  have ht : (⟨t.data.toList.toArray⟩ : ByteArray) = t := rfl
  have hl : t.data.toList.length = t.size := by simp
  by_cases hp : Printed t
  · have hv : decV t.data.toList = if valN t t.size < 256 then some (valN t t.size) else none := by
      unfold decV
      rw [ht, hl]
      by_cases h : valN t t.size < 256
      · rw [if_pos ⟨hp, h⟩, if_pos h]
      · rw [if_neg (fun c => h c.2), if_neg h]
    by_cases h39 : 39 < t.size
    · refine (parse_long t hs hp h39 w).mono ?_
      rintro e w' ⟨rfl, hb⟩
      refine ⟨0, 0, 11, rfl, Or.inr ⟨by omega, ?_⟩, hb⟩
      have := valN_ge t hp t.size (by omega) (Nat.le_refl _) (by omega)
      have p : 10 ^ 39 ≤ 10 ^ (t.size - 1) := Nat.pow_le_pow_right (by decide) (by omega)
      have q : (10 : Nat) ^ 39 = 1000000000000000000000000000000000000000 := by decide
      rw [hv, if_neg (by omega)]
    · refine (parse_dig t hp (by omega) w).mono ?_
      rintro e w' (⟨h, l, rfl, hn, hb⟩ | ⟨hbig, rfl, hb⟩)
      · exact ⟨h, l, 0, rfl, Or.inl ⟨rfl, _, hn, hv⟩, hb⟩
      · exact ⟨0, 0, 11, rfl, Or.inr ⟨by omega, by rw [hv, if_neg (by omega)]⟩, hb⟩
  · refine (parse_form t hs hp w).mono ?_
    rintro e w' ⟨rfl, hb⟩
    refine ⟨0, 0, 4, rfl, Or.inr ⟨by omega, ?_⟩, hb⟩
    unfold decV
    rw [ht, if_neg (fun c => hp c.1)]

/-- What the loop of readShort keeps. -/
def RS (w : World) (h l : Int) (wr : World) : Prop :=
  Blk wr w.heap.size #[.int .u64 0, .int .u64 0] 24 ∧ Blk wr (w.heap.size + 1) #[.int .u64 h, .int .u64 l] 24 ∧ Below w.heap.size w wr

theorem RS.via {w W W0 w1 : World} {h l : Int} (hb : Below W.heap.size W w1) (s : RS w h l W0) (e : W.heap = W0.heap) (e1 : W.os = W0.os) (e2 : W.tape = W0.tape) (e3 : W.output = W0.output) : RS w h l w1 :=
  ⟨s.1.via hb e, s.2.1.via hb e, Below.via hb s.2.2 (Nat.le_refl _) e e1 e2 e3⟩

theorem RS.below {w W w1 : World} {h l : Int} (s : RS w h l W) (hb : Below W.heap.size W w1) : RS w h l w1 := RS.via hb s rfl rfl rfl rfl

theorem RS.alloc {w W : World} {h l : Int} (s : RS w h l W) (o : Obj) : RS w h l (W.alloc o) :=
  ⟨s.1.alloc o, s.2.1.alloc o, s.2.2.alloc (Nat.le_of_lt s.1.lt) o⟩

theorem RS.put {w W : World} {h l : Int} (s : RS w h l W) (h' l' : Int) : RS w h' l' ((W.setCell ⟨w.heap.size + 1, 0, none⟩ (.int .u64 h')).setCell ⟨w.heap.size + 1, 1, none⟩ (.int .u64 l')) :=
  ⟨s.1.far2 (by omega) _ _, s.2.1.put2 _ _, (s.2.2.setCell (by show _ ≤ w.heap.size + 1; omega) _).setCell (by show _ ≤ w.heap.size + 1; omega) _⟩

/-- What readShort answers. -/
def ShortIs (l : List UInt8) (h lo : Int) (ok : Bool) : Prop := (∃ n, shortF 3 0 l = some n ∧ n < 4294967296 ∧ IsNum h lo n ∧ ok = true) ∨ (shortF 3 0 l = none ∧ h = 0 ∧ lo = 0 ∧ ok = false)

set_option maxRecDepth 100000 in
set_option maxHeartbeats 3200000 in
theorem readShort_w (S : ByteArray) (hS : S.size ≤ 1000000) (w : World) (hL : LW w) :
    Calls Tryz.prog 32 #[.string S] w fun e w' => ∃ (h l : Int) (ok : Bool), e = .returned (.tuple #[nv h l, .bool ok]) ∧ Hid (ShortIs S.data.toList h l ok) ∧ Below w.heap.size w w' := by
  have hz := hL.sz
  have Lx : ∀ W, Below w.heap.size w W → LW W := fun W hb => hL.of hb hz
  obtain ⟨GI, hGI⟩ : ∃ GI, ShortIs S.data.toList = GI := ⟨_, rfl⟩
  have bad : Hid (shortF 3 0 S.data.toList = none → GI 0 0 false) := fun h => by rw [← hGI]; exact Or.inr ⟨h, rfl, rfl, rfl⟩
  have good : Hid (∀ (h l : Int) (n : Nat), shortF 3 0 S.data.toList = some n → n < 4294967296 → IsNum h l n → GI h l true) := fun h l n h1 h2 h3 => by rw [← hGI]; exact Or.inl ⟨n, h1, h2, h3, rfl⟩
  rw [hGI]
  clear hGI hL
  obtain ⟨R, hR⟩ : ∃ R, R = shortF 3 0 S.data.toList := ⟨_, rfl⟩
  rw [← hR] at bad good
  have T0 : RS w 0 0 ((w.alloc (.cells #[.int .u64 0, .int .u64 0] 24)).alloc (.cells #[.int .u64 0, .int .u64 0] 24)) :=
    ⟨(Blk.new _ _ _).alloc _, by simpa using Blk.new (w.alloc (.cells #[.int .u64 0, .int .u64 0] 24)) #[.int .u64 0, .int .u64 0] 24, by repeat (first | with_reducible exact Below.refl _ _ | with_reducible refine Below.drew ?_ | with_reducible refine Below.alloc ?_ (by first | omega | (simp <;> omega)) _ | with_reducible refine Below.setCell ?_ (by first | omega | (simp <;> omega)) _)⟩
  have R0 : Hid (R = shR 0 0 S.data.toList) := hR
  clear hR
  go_enter Tryz.func32, Tryz.ntmps32
  go_wp2_with fail
  go_loopw [0, 12] (fun a b wr => ∃ (k n : Nat) (t : ByteArray) (h l : Int), a = .string t ∧ b = .int .i64 k ∧ k ≤ 4 ∧ t.size ≤ 1000000 ∧ n < 256 ^ k ∧ IsNum h l n ∧ Hid (R = shR k n t.data.toList) ∧ RS w h l wr) (fun _ b _ => 4 - (intOf b).toNat)
  case atStart => exact ⟨0, 0, S, 0, 0, rfl, rfl, by omega, hS, by decide, ⟨by omega, by omega, by omega, by omega, rfl⟩, R0, T0⟩
  case round =>
    clear T0 R0
    obtain ⟨k, n, t, h, l, rfl, rfl, hk, ht, hn4, hn, hh, S⟩ := hrel
    by_cases hlt : k < 4
    · have hki : (k : Int) < 4 := by omega
      have LS := Lx _ S.2.2
      have CC := cut_c t ⟨#[46]⟩ (by simp) ht wr LS
      have cl := cutG_len [46] (by simp) t.data.toList
      obtain ⟨d, hd⟩ : ∃ d, d = (cutG [46] t.data.toList).1 := ⟨_, rfl⟩
      obtain ⟨r, hr⟩ : ∃ r, r = (cutG [46] t.data.toList).2.1 := ⟨_, rfl⟩
      obtain ⟨m, hm⟩ : ∃ m, m = (cutG [46] t.data.toList).2.2 := ⟨_, rfl⟩
      have tl : t.data.toList.length = t.size := by simp
      have hs1 : ∀ v, decV d = some v → m = decide (k ≠ 3) → shR k n t.data.toList = shR (k + 1) (n * 256 + v) r := fun v h1 h2 => by
        rw [hr]; exact shR_step hlt (by rw [← hd]; exact h1) (by rw [← hm]; exact h2)
      have hs2 : decV d = none ∨ m = decide (k = 3) → shR k n t.data.toList = none := fun h1 => shR_none hlt (by rw [← hd, ← hm]; exact h1)
      simp only [] at CC
      rw [← hd, ← hr, ← hm] at CC cl
      clear hd hr hm
      obtain ⟨D, hD⟩ : ∃ D : ByteArray, D = ⟨d.toArray⟩ := ⟨_, rfl⟩
      obtain ⟨Rt, hRt⟩ : ∃ Rt : ByteArray, Rt = ⟨r.toArray⟩ := ⟨_, rfl⟩
      have dl : D.data.toList = d := by rw [hD]
      have rl : Rt.data.toList = r := by rw [hRt]
      have dsz : D.size ≤ 1000000 := by rw [hD]; simp [ByteArray.size]; omega
      have rsz : Rt.size ≤ 1000000 := by rw [hRt]; simp [ByteArray.size]; omega
      rw [← hD, ← hRt] at CC
      clear hD hRt
      rw [← dl] at hs1 hs2
      rw [← rl] at hs1
      clear dl rl cl tl
      have PC := fun w' => part_c D dsz w'
      have H1 : Hid _ := hs1
      have H2 : Hid _ := hs2
      clear hs1 hs2
      go_wp2_with fail
      refine CC.mono ?_
      rintro e w1 ⟨rfl, hb1⟩
      clear CC
      go_wp2_with fail
      refine (PC _).mono ?_
      rintro e w2 ⟨vh, vl, ec, rfl, hpt, hb2⟩
      have S2 := (S.below hb1).below hb2
      clear PC hb1 hb2 S LS
      obtain ⟨O0, O1, O2, O3, O4⟩ := S2.1.two
      obtain ⟨N0, N1, N2, N3, N4⟩ := S2.2.1.two
      rcases hpt with ⟨rfl, v, hv, hdv⟩ | ⟨hec, hdv⟩
      · by_cases h256 : v < 256
        · rw [if_pos h256] at hdv
          have hlen : Go.bitLen v ≤ 8 := bitLen_le_of_lt (by simpa using h256)
          obtain ⟨z, hz2⟩ : ∃ z : Int, z = (Go.bitLen v : Nat) := ⟨_, rfl⟩
          have z8 : ¬ 8 < z := by omega
          have LC := fun w' => len_is hv hz2 w'
          clear hz2 hlen
          by_cases hmk : m = decide (k = 3)
          · have gx : Hid (GI 0 0 false) := bad.out (hh.out.trans (H2.out (Or.inr hmk)))
            have e1 : (m == ((k : Int) == 3)) = true := by rw [hmk, beq_iff_eq, Bool.eq_iff_iff]; simp; omega
            clear hmk H1 H2 hdv hh hv good
            go_wp2_with fail
            refine (LC _).mono ?_
            rintro e w3 ⟨rfl, hb3⟩
            obtain ⟨hc3, hf3⟩ := bcell hb3
            have hz_w3_0 : w.heap.size < w3.heap.size   := (by have := hb3.size; first | omega | (simp at this; omega))
            have hz_w3_1 : w.heap.size + 1 < w3.heap.size   := (by have := hb3.size; first | omega | (simp at this; omega))
            have S3 := (S2.alloc (.cells #[.int .u64 vh, .int .u64 vl] 24)).below hb3
            obtain ⟨Q0, Q1, Q2, Q3, Q4⟩ := S3.1.two
            have hB := S3.2.2
            clear LC hc3 hf3
            go_wp2
            refine bodyPost_ret (v := .tuple #[nv 0 0, .bool false]) (by simp [results, Tryz.results32, go_sem, World.cell?_setCell_same', World.cell?_setCell_other, *]) rfl ⟨0, 0, false, rfl, gx, by repeat (first | with_reducible exact Below.refl _ _ | with_reducible refine Below.drew ?_ | with_reducible refine Below.alloc ?_ (by first | omega | (simp <;> omega)) _ | with_reducible refine Below.setCell ?_ (by first | omega | (simp <;> omega)) _ | with_reducible refine Below.trans ?_ (Below.mono hB (by first | omega | (simp <;> omega))))⟩
          · have hm' : m = decide (k ≠ 3) := by
              cases m <;> by_cases c : k = 3 <;> simp_all
            have e1 : (m == ((k : Int) == 3)) = false := by
              rw [hm', beq_eq_false_iff_ne]
              by_cases c : k = 3
              · subst c; simp
              · have : ((k : Int) == 3) = false := by rw [beq_eq_false_iff_ne]; omega
                rw [this]; simp [c]
            have n24 : n < 16777216 := by
              have : 256 ^ k ≤ 256 ^ 3 := Nat.pow_le_pow_right (by decide) (by omega)
              rw [show (256 : Nat) ^ 3 = 16777216 by decide] at this
              omega
            have up : n * 256 + v < 256 ^ (k + 1) := by rw [Nat.pow_succ]; omega
            obtain ⟨sh, sl, hs⟩ := IsNum.ex (n := n * 2 ^ (8 : Int).toNat % 340282366920938463463374607431768211456) (Nat.mod_lt _ (by decide))
            have hs' : IsNum sh sl (n * 256) := hs.cast (by rw [show 2 ^ (8 : Int).toNat = 256 from rfl]; omega)
            obtain ⟨rh, rl, hr⟩ := IsNum.ex (n := n * 256 + v) (by omega)
            have hor : n * 256 ||| v = n * 256 + v := by
              have := or_add 8 n v (by simpa using h256)
              rwa [show (2 : Nat) ^ 8 = 256 by decide, Nat.mul_comm 256] at this
            have C1 : Hid (∀ w, Calls Tryz.prog 58 #[nv h l, .int .i64 8] w fun e w' => e = .returned (nv sh sl) ∧ Below w.heap.size w w') := fun w => shl_is hn (by omega) hs w
            have C3 : Hid (∀ w, Calls Tryz.prog 52 #[nv sh sl, nv vh vl] w fun e w' => e = .returned (nv rh rl) ∧ Below w.heap.size w w') := fun w => or_is hs' hv (hr.cast hor.symm) w
            have hh' : Hid (R = shR (k + 1) (n * 256 + v) Rt.data.toList) := hh.out.trans (H1.out v hdv hm')
            have hr' : Hid (IsNum rh rl (n * 256 + v)) := hr
            have up' : Hid (n * 256 + v < 256 ^ (k + 1)) := up
            clear hm' hmk hs hs' hr hor hdv H1 H2 hh hv hn up n24 h256 hn4 bad good
            go_wp2_with fail
            refine (LC _).mono ?_
            rintro e w3 ⟨rfl, hb3⟩
            obtain ⟨hc3, hf3⟩ := bcell hb3
            have hz_w3_0 : w.heap.size < w3.heap.size   := (by have := hb3.size; first | omega | (simp at this; omega))
            have hz_w3_1 : w.heap.size + 1 < w3.heap.size   := (by have := hb3.size; first | omega | (simp at this; omega))
            have hz_w3_2 : w2.heap.size < w3.heap.size   := (by have := hb3.size; first | omega | (simp at this; omega))
            have S3 := (S2.alloc (.cells #[.int .u64 vh, .int .u64 vl] 24)).below hb3
            clear LC
            go_wp2_with fail
            refine wp_region_held_drew (S := fun _ => True) (by kernel_rfl) trivial (fun hHeld => ?_)
            refine wpAnyH_ready (rs := [0, 2]) (by kernel_rfl) (by simp) ?rdy1
            refine (AllReadyH.cons (List.getElem?_toArray.trans rfl) (fun K hK => ?stp1_0) (AllReadyH.cons (List.getElem?_toArray.trans rfl) (fun K hK => ?stp1_2) AllReadyH.nil))
            case stp1_0 =>
              go_simp
              go_wp2_with fail
              refine hK.out _ _ trivial (fun hHeld2 => ?_)
              clear hK K hHeld2
              try simp only [Act.put, List.setIfInBounds_toArray, List.set_cons_zero, List.set_cons_succ]
              refine wpAnyH_ready (rs := [1, 2]) (by kernel_rfl) (by simp) ?rdy2
              refine (AllReadyH.cons (List.getElem?_toArray.trans rfl) (fun K hK => ?stp2_1) (AllReadyH.cons (List.getElem?_toArray.trans rfl) (fun K hK => ?stp2_2) AllReadyH.nil))
              case stp2_1 =>
                go_simp
                go_wp2_with fail
                (refine (C1.out _).mono ?_; rintro e w4 ⟨rfl, hb4⟩; obtain ⟨hc4, hf4⟩ := bcellv (W0 := w3) hb4 rfl; have hz_w4_0 : w.heap.size < w4.heap.size   := (by have := hb4.size; first | omega | (simp at this; omega)); have hz_w4_1 : w.heap.size + 1 < w4.heap.size   := (by have := hb4.size; first | omega | (simp at this; omega)); have hz_w4_2 : w2.heap.size < w4.heap.size   := (by have := hb4.size; first | omega | (simp at this; omega)))
                go_wp2_with fail
                refine hK.out _ _ trivial (fun hHeld2 => ?_)
                clear hK K hHeld2
                try simp only [Act.put, List.setIfInBounds_toArray, List.set_cons_zero, List.set_cons_succ]
                refine wpAnyH_ready (rs := [2]) (by kernel_rfl) (by simp) ?rdy3
                refine (AllReadyH.cons (List.getElem?_toArray.trans rfl) (fun K hK => ?stp3_2) AllReadyH.nil)
                case stp3_2 =>
                  go_simp
                  go_wp2_with fail
                  refine hK.out _ _ trivial (fun hHeld2 => ?_)
                  clear hK K hHeld2
                  try simp only [Act.put, List.setIfInBounds_toArray, List.set_cons_zero, List.set_cons_succ]
                  refine wpAnyH_ready (rs := [3]) (by kernel_rfl) (by simp) ?rdy4
                  refine (AllReadyH.cons (List.getElem?_toArray.trans rfl) (fun K hK => ?stp4_3) AllReadyH.nil)
                  case stp4_3 =>
                    go_simp
                    go_wp2_with fail
                    (refine (C3.out _).mono ?_; rintro e w5 ⟨rfl, hb5⟩; obtain ⟨hc5, hf5⟩ := bcell hb5; have hz_w5_0 : w.heap.size < w5.heap.size   := (by have := hb5.size; first | omega | (simp at this; omega)); have hz_w5_1 : w.heap.size + 1 < w5.heap.size   := (by have := hb5.size; first | omega | (simp at this; omega)))
                    go_wp2_with fail
                    refine hK.out _ _ trivial (fun hHeld2 => ?_)
                    clear hK K hHeld2
                    try simp only [Act.put, List.setIfInBounds_toArray, List.set_cons_zero, List.set_cons_succ]
                    refine wpAnyH_ready (rs := [4]) (by kernel_rfl) (by simp) ?rdy5
                    refine (AllReadyH.cons (List.getElem?_toArray.trans rfl) (fun K hK => ?stp5_4) AllReadyH.nil)
                    case stp5_4 =>
                      go_simp
                      go_wp2_with fail
                      refine hK.out _ _ trivial (fun hHeld2 => ?_)
                      clear hK K hHeld2
                      try simp only [Act.put, List.setIfInBounds_toArray, List.set_cons_zero, List.set_cons_succ]
                      refine wpAnyH_done (by kernel_rfl) ?_ _
                      go_wp2
                      go_roundw
                      case measure => simp [intOf]; omega
                      case rel => exact ⟨k + 1, n * 256 + v, Rt, rh, rl, rfl, by go_num, by omega, rsz, up'.out, hr'.out, hh', (RS.via hb5 (RS.via hb4 S3 rfl rfl rfl rfl) rfl rfl rfl rfl).put rh rl⟩
              case stp2_2 =>
                go_simp
                go_wp2_with fail
                refine hK.out _ _ trivial (fun hHeld2 => ?_)
                clear hK K hHeld2
                try simp only [Act.put, List.setIfInBounds_toArray, List.set_cons_zero, List.set_cons_succ]
                refine wpAnyH_ready (rs := [1]) (by kernel_rfl) (by simp) ?rdy6
                refine (AllReadyH.cons (List.getElem?_toArray.trans rfl) (fun K hK => ?stp6_1) AllReadyH.nil)
                case stp6_1 =>
                  go_simp
                  go_wp2_with fail
                  (refine (C1.out _).mono ?_; rintro e w4 ⟨rfl, hb4⟩; obtain ⟨hc4, hf4⟩ := bcellv (W0 := w3) hb4 rfl; have hz_w4_0 : w.heap.size < w4.heap.size   := (by have := hb4.size; first | omega | (simp at this; omega)); have hz_w4_1 : w.heap.size + 1 < w4.heap.size   := (by have := hb4.size; first | omega | (simp at this; omega)); have hz_w4_2 : w2.heap.size < w4.heap.size   := (by have := hb4.size; first | omega | (simp at this; omega)))
                  go_wp2_with fail
                  refine hK.out _ _ trivial (fun hHeld2 => ?_)
                  clear hK K hHeld2
                  try simp only [Act.put, List.setIfInBounds_toArray, List.set_cons_zero, List.set_cons_succ]
                  refine wpAnyH_ready (rs := [3]) (by kernel_rfl) (by simp) ?rdy7
                  refine (AllReadyH.cons (List.getElem?_toArray.trans rfl) (fun K hK => ?stp7_3) AllReadyH.nil)
                  case stp7_3 =>
                    go_simp
                    go_wp2_with fail
                    (refine (C3.out _).mono ?_; rintro e w5 ⟨rfl, hb5⟩; obtain ⟨hc5, hf5⟩ := bcell hb5; have hz_w5_0 : w.heap.size < w5.heap.size   := (by have := hb5.size; first | omega | (simp at this; omega)); have hz_w5_1 : w.heap.size + 1 < w5.heap.size   := (by have := hb5.size; first | omega | (simp at this; omega)))
                    go_wp2_with fail
                    refine hK.out _ _ trivial (fun hHeld2 => ?_)
                    clear hK K hHeld2
                    try simp only [Act.put, List.setIfInBounds_toArray, List.set_cons_zero, List.set_cons_succ]
                    refine wpAnyH_ready (rs := [4]) (by kernel_rfl) (by simp) ?rdy8
                    refine (AllReadyH.cons (List.getElem?_toArray.trans rfl) (fun K hK => ?stp8_4) AllReadyH.nil)
                    case stp8_4 =>
                      go_simp
                      go_wp2_with fail
                      refine hK.out _ _ trivial (fun hHeld2 => ?_)
                      clear hK K hHeld2
                      try simp only [Act.put, List.setIfInBounds_toArray, List.set_cons_zero, List.set_cons_succ]
                      refine wpAnyH_done (by kernel_rfl) ?_ _
                      go_wp2
                      go_roundw
                      case measure => simp [intOf]; omega
                      case rel => exact ⟨k + 1, n * 256 + v, Rt, rh, rl, rfl, by go_num, by omega, rsz, up'.out, hr'.out, hh', (RS.via hb5 (RS.via hb4 S3 rfl rfl rfl rfl) rfl rfl rfl rfl).put rh rl⟩
            case stp1_2 =>
              go_simp
              go_wp2_with fail
              refine hK.out _ _ trivial (fun hHeld2 => ?_)
              clear hK K hHeld2
              try simp only [Act.put, List.setIfInBounds_toArray, List.set_cons_zero, List.set_cons_succ]
              refine wpAnyH_ready (rs := [0]) (by kernel_rfl) (by simp) ?rdy9
              refine (AllReadyH.cons (List.getElem?_toArray.trans rfl) (fun K hK => ?stp9_0) AllReadyH.nil)
              case stp9_0 =>
                go_simp
                go_wp2_with fail
                refine hK.out _ _ trivial (fun hHeld2 => ?_)
                clear hK K hHeld2
                try simp only [Act.put, List.setIfInBounds_toArray, List.set_cons_zero, List.set_cons_succ]
                refine wpAnyH_ready (rs := [1]) (by kernel_rfl) (by simp) ?rdy10
                refine (AllReadyH.cons (List.getElem?_toArray.trans rfl) (fun K hK => ?stp10_1) AllReadyH.nil)
                case stp10_1 =>
                  go_simp
                  go_wp2_with fail
                  (refine (C1.out _).mono ?_; rintro e w4 ⟨rfl, hb4⟩; obtain ⟨hc4, hf4⟩ := bcellv (W0 := w3) hb4 rfl; have hz_w4_0 : w.heap.size < w4.heap.size   := (by have := hb4.size; first | omega | (simp at this; omega)); have hz_w4_1 : w.heap.size + 1 < w4.heap.size   := (by have := hb4.size; first | omega | (simp at this; omega)); have hz_w4_2 : w2.heap.size < w4.heap.size   := (by have := hb4.size; first | omega | (simp at this; omega)))
                  go_wp2_with fail
                  refine hK.out _ _ trivial (fun hHeld2 => ?_)
                  clear hK K hHeld2
                  try simp only [Act.put, List.setIfInBounds_toArray, List.set_cons_zero, List.set_cons_succ]
                  refine wpAnyH_ready (rs := [3]) (by kernel_rfl) (by simp) ?rdy11
                  refine (AllReadyH.cons (List.getElem?_toArray.trans rfl) (fun K hK => ?stp11_3) AllReadyH.nil)
                  case stp11_3 =>
                    go_simp
                    go_wp2_with fail
                    (refine (C3.out _).mono ?_; rintro e w5 ⟨rfl, hb5⟩; obtain ⟨hc5, hf5⟩ := bcell hb5; have hz_w5_0 : w.heap.size < w5.heap.size   := (by have := hb5.size; first | omega | (simp at this; omega)); have hz_w5_1 : w.heap.size + 1 < w5.heap.size   := (by have := hb5.size; first | omega | (simp at this; omega)))
                    go_wp2_with fail
                    refine hK.out _ _ trivial (fun hHeld2 => ?_)
                    clear hK K hHeld2
                    try simp only [Act.put, List.setIfInBounds_toArray, List.set_cons_zero, List.set_cons_succ]
                    refine wpAnyH_ready (rs := [4]) (by kernel_rfl) (by simp) ?rdy12
                    refine (AllReadyH.cons (List.getElem?_toArray.trans rfl) (fun K hK => ?stp12_4) AllReadyH.nil)
                    case stp12_4 =>
                      go_simp
                      go_wp2_with fail
                      refine hK.out _ _ trivial (fun hHeld2 => ?_)
                      clear hK K hHeld2
                      try simp only [Act.put, List.setIfInBounds_toArray, List.set_cons_zero, List.set_cons_succ]
                      refine wpAnyH_done (by kernel_rfl) ?_ _
                      go_wp2
                      go_roundw
                      case measure => simp [intOf]; omega
                      case rel => exact ⟨k + 1, n * 256 + v, Rt, rh, rl, rfl, by go_num, by omega, rsz, up'.out, hr'.out, hh', (RS.via hb5 (RS.via hb4 S3 rfl rfl rfl rfl) rfl rfl rfl rfl).put rh rl⟩
        · rw [if_neg h256] at hdv
          have gx : Hid (GI 0 0 false) := bad.out (hh.out.trans (H2.out (Or.inl hdv)))
          have hlen : 8 < Go.bitLen v := by
            apply Nat.not_le.1
            intro c
            have s := (Go.bitLen_spec v).1
            have p : 2 ^ Go.bitLen v ≤ 2 ^ 8 := Nat.pow_le_pow_right (by decide) c
            rw [show (2 : Nat) ^ 8 = 256 by decide] at p
            omega
          obtain ⟨z, hz2⟩ : ∃ z : Int, z = (Go.bitLen v : Nat) := ⟨_, rfl⟩
          have z8 : 8 < z := by omega
          have LC := fun w' => len_is hv hz2 w'
          clear hz2 hlen H1 H2 hdv hh hv good h256
          go_wp2_with fail
          refine (LC _).mono ?_
          rintro e w3 ⟨rfl, hb3⟩
          obtain ⟨hc3, hf3⟩ := bcell hb3
          have hz_w3_0 : w.heap.size < w3.heap.size   := (by have := hb3.size; first | omega | (simp at this; omega))
          have hz_w3_1 : w.heap.size + 1 < w3.heap.size   := (by have := hb3.size; first | omega | (simp at this; omega))
          have S3 := (S2.alloc (.cells #[.int .u64 vh, .int .u64 vl] 24)).below hb3
          obtain ⟨Q0, Q1, Q2, Q3, Q4⟩ := S3.1.two
          have hB := S3.2.2
          clear LC hc3 hf3
          go_wp2
          refine bodyPost_ret (v := .tuple #[nv 0 0, .bool false]) (by simp [results, Tryz.results32, go_sem, World.cell?_setCell_same', World.cell?_setCell_other, *]) rfl ⟨0, 0, false, rfl, gx, by repeat (first | with_reducible exact Below.refl _ _ | with_reducible refine Below.drew ?_ | with_reducible refine Below.alloc ?_ (by first | omega | (simp <;> omega)) _ | with_reducible refine Below.setCell ?_ (by first | omega | (simp <;> omega)) _ | with_reducible refine Below.trans ?_ (Below.mono hB (by first | omega | (simp <;> omega))))⟩
      · have gx : Hid (GI 0 0 false) := bad.out (hh.out.trans (H2.out (Or.inl hdv)))
        have e1 : (ec != 0) = true := by simpa using hec
        have e2 : (ec == 0) = false := by simpa using hec
        have hB := S2.2.2
        clear hec H1 H2 hdv hh good
        go_wp2
        refine bodyPost_ret (v := .tuple #[nv 0 0, .bool false]) (by simp [results, Tryz.results32, go_sem, World.cell?_setCell_same', World.cell?_setCell_other, *]) rfl ⟨0, 0, false, rfl, gx, by repeat (first | with_reducible exact Below.refl _ _ | with_reducible refine Below.drew ?_ | with_reducible refine Below.alloc ?_ (by first | omega | (simp <;> omega)) _ | with_reducible refine Below.setCell ?_ (by first | omega | (simp <;> omega)) _ | with_reducible refine Below.trans ?_ (Below.mono hB (by first | omega | (simp <;> omega))))⟩
    · obtain rfl : k = 4 := by omega
      have gx : Hid (GI h l true) := good.out h l n (hh.out.trans (by simp [shR])) (by simpa using hn4) hn
      obtain ⟨O0, O1, O2, O3, O4⟩ := S.1.two
      obtain ⟨N0, N1, N2, N3, N4⟩ := S.2.1.two
      have hB := S.2.2
      clear bad good hh hn hn4
      go_wp2
      refine bodyPost_ret (v := .tuple #[nv h l, .bool true]) (by simp [results, Tryz.results32, go_sem, World.cell?_setCell_same', World.cell?_setCell_other, *]) rfl ⟨h, l, true, rfl, gx, by repeat (first | with_reducible exact Below.refl _ _ | with_reducible refine Below.drew ?_ | with_reducible refine Below.alloc ?_ (by first | omega | (simp <;> omega)) _ | with_reducible refine Below.setCell ?_ (by first | omega | (simp <;> omega)) _ | with_reducible refine Below.trans ?_ (Below.mono hB (by first | omega | (simp <;> omega))))⟩
end Go.Proofs.YtipjmmhlfmahbaaGreatDoor

namespace Go.Proofs.YtipjmmhlfmahbaaGreatDoor
open Go.ChangeShapes Go.WideShapes Go.ChangeAt Go.RowKit
set_option linter.unusedVariables false
set_option linter.unusedSimpArgs false

/-- Groups with a colon between, behind c groups that make n; the fuel is more than the text's length. -/
def grF (last : Bool) : Nat → Nat → Nat → List UInt8 → Option (Nat × Nat)
  | 0, _, _, _ => none
  | f + 1, n, c, l => match hexG (cutG [58] l).1 with
    | some v => if 8 < c + 1 then none else if (cutG [58] l).2.2 = true then grF last f (n * 65536 + v) (c + 1) (cutG [58] l).2.1 else some (n * 65536 + v, c + 1)
    | none => match shortF 3 0 (cutG [58] l).1 with
      | some v => if last = true ∧ (cutG [58] l).2.2 = false then (if 8 < c + 2 then none else some (n * 4294967296 + v, c + 2)) else none
      | none => none

/-- All groups of a text: the number that they make, and how many they are. -/
def groupsF (last : Bool) (l : List UInt8) : Option (Nat × Nat) := if l = [] then some (0, 0) else grF last (l.length + 1) 0 0 l

/-- What readGroups answers. -/
def GroupsIs (last : Bool) (s : List UInt8) (h l c : Int) (ok : Bool) : Prop :=
  (∃ n k, groupsF last s = some (n, k) ∧ IsNum h l n ∧ n < 2 ^ (16 * k) ∧ k ≤ 8 ∧ c = (k : Int) ∧ ok = true) ∨ (groupsF last s = none ∧ h = 0 ∧ l = 0 ∧ c = 0 ∧ ok = false)

/-- What the loop of readGroups keeps. -/
def RG (w : World) (h l c : Int) (wr : World) : Prop :=
  Blk wr w.heap.size #[.int .u64 0, .int .u64 0, .int .i64 0] 75 ∧ Blk wr (w.heap.size + 1) #[.int .u64 h, .int .u64 l, .int .i64 c] 75 ∧ Below w.heap.size w wr

theorem RG.below {w W w1 : World} {h l c : Int} (s : RG w h l c W) (hb : Below W.heap.size W w1) : RG w h l c w1 :=
  ⟨s.1.below hb, s.2.1.below hb, s.2.2.trans (hb.mono s.2.2.size)⟩

theorem RG.alloc {w W : World} {h l c : Int} (s : RG w h l c W) (o : Obj) : RG w h l c (W.alloc o) :=
  ⟨s.1.alloc o, s.2.1.alloc o, s.2.2.alloc (Nat.le_of_lt s.1.lt) o⟩

theorem RG.put {w W : World} {h l c : Int} (s : RG w h l c W) (h' l' c' : Int) : RG w h' l' c' (((W.setCell ⟨w.heap.size + 1, 0, none⟩ (.int .u64 h')).setCell ⟨w.heap.size + 1, 1, none⟩ (.int .u64 l')).setCell ⟨w.heap.size + 1, 2, none⟩ (.int .i64 c')) :=
  ⟨s.1.far3 (by omega) _ _ _, s.2.1.put3 _ _ _, ((s.2.2.setCell (by show _ ≤ w.heap.size + 1; omega) _).setCell (by show _ ≤ w.heap.size + 1; omega) _).setCell (by show _ ≤ w.heap.size + 1; omega) _⟩

/-- How much is still to be read. -/
def mG : Value → Value → Nat
  | .string t, .bool true => t.size + 1
  | _, _ => 0

theorem two16 {n k v s : Nat} (hn : n < 2 ^ (16 * k)) (hk : k + s ≤ 8) (hv : v < 2 ^ (16 * s)) :
    (n * 2 ^ (16 * s) % 340282366920938463463374607431768211456) ||| v = n * 2 ^ (16 * s) + v ∧ n * 2 ^ (16 * s) + v < 2 ^ (16 * (k + s)) := by
  have e : 2 ^ (16 * (k + s)) = 2 ^ (16 * k) * 2 ^ (16 * s) := by rw [← Nat.pow_add, ← Nat.mul_add]
  have l1 : 2 ^ (16 * (k + s)) ≤ 2 ^ 128 := Nat.pow_le_pow_right (by decide) (by omega)
  rw [show (2 : Nat) ^ 128 = 340282366920938463463374607431768211456 by decide] at l1
  have up : n * 2 ^ (16 * s) + v < 2 ^ (16 * (k + s)) := by
    rw [e]
    have : (n + 1) * 2 ^ (16 * s) ≤ 2 ^ (16 * k) * 2 ^ (16 * s) := Nat.mul_le_mul_right _ hn
    rw [Nat.add_mul, Nat.one_mul] at this
    omega
  refine ⟨?_, up⟩
  rw [Nat.mod_eq_of_lt (by omega)]
  have := or_add (16 * s) n v hv
  rwa [Nat.mul_comm] at this

set_option maxRecDepth 100000 in
set_option maxHeartbeats 1500000 in
theorem readGroups_w (last : Bool) (S : ByteArray) (hS : S.size ≤ 1000000) (w : World) (hL : LW w) :
    Calls Tryz.prog 55 #[.string S, .bool last] w fun e w' => ∃ (h l c : Int) (ok : Bool), e = .returned (.tuple #[gv h l c, .bool ok]) ∧ Hid (GroupsIs last S.data.toList h l c ok) ∧ Below w.heap.size w w' := by
  have hz := hL.sz
  have Lx : ∀ W, Below w.heap.size w W → LW W := fun W hb => hL.of hb hz
  obtain ⟨GI, hGI⟩ : ∃ GI, GroupsIs last S.data.toList = GI := ⟨_, rfl⟩
  have bad : Hid (groupsF last S.data.toList = none → GI 0 0 0 false) := fun h => by rw [← hGI]; exact Or.inr ⟨h, rfl, rfl, rfl, rfl⟩
  have good : Hid (∀ (h l c : Int) (n k : Nat), groupsF last S.data.toList = some (n, k) → IsNum h l n → n < 2 ^ (16 * k) → k ≤ 8 → c = (k : Int) → GI h l c true) := fun h l c n k h1 h2 h3 h4 h5 => by rw [← hGI]; exact Or.inl ⟨n, k, h1, h2, h3, h4, h5, rfl⟩
  rw [hGI]
  clear hGI hL
  obtain ⟨R, hR⟩ : ∃ R, R = groupsF last S.data.toList := ⟨_, rfl⟩
  rw [← hR] at bad good
  have T0 : RG w 0 0 0 ((w.alloc (.cells #[.int .u64 0, .int .u64 0, .int .i64 0] 75)).alloc (.cells #[.int .u64 0, .int .u64 0, .int .i64 0] 75)) :=
    ⟨(Blk.new _ _ _).alloc _, by simpa using Blk.new (w.alloc (.cells #[.int .u64 0, .int .u64 0, .int .i64 0] 75)) #[.int .u64 0, .int .u64 0, .int .i64 0] 75, by repeat (first | with_reducible exact Below.refl _ _ | with_reducible refine Below.drew ?_ | with_reducible refine Below.alloc ?_ (by first | omega | (simp <;> omega)) _ | with_reducible refine Below.setCell ?_ (by first | omega | (simp <;> omega)) _)⟩
  have sl : S.data.toList.length = S.size := by simp
  obtain ⟨m0, hm0⟩ : ∃ m0, m0 = !S.toList.isEmpty := ⟨_, rfl⟩
  have R0 : Hid (R = if m0 = true then grF last (S.size + 1) 0 0 S.data.toList else some (0, 0)) := by
    show _ = _
    rw [hR, hm0, isEmpty_iff]
    unfold groupsF
    by_cases h0 : S.size = 0
    · have : S.data.toList = [] := List.length_eq_zero_iff.1 (by omega)
      rw [if_pos this, if_neg (by simp [h0])]
    · have : S.data.toList ≠ [] := fun c => h0 (by rw [← sl, c]; rfl)
      rw [if_neg this, if_pos (by simp [h0]), sl]
  clear hR sl
  obtain ⟨I, hI⟩ : ∃ I : Nat → Nat → Nat → ByteArray → Bool → Int → Int → Int → Prop, I = fun (f n k : Nat) (t : ByteArray) (m : Bool) (h l c : Int) => k ≤ 8 ∧ c = (k : Int) ∧ t.size ≤ 1000000 ∧ n < 2 ^ (16 * k) ∧ IsNum h l n ∧ (m = true → t.size < f) ∧ R = if m = true then grF last f n k t.data.toList else some (n, k) := ⟨_, rfl⟩
  have I0 : I (S.size + 1) 0 0 S m0 0 0 0 := by
    rw [hI]
    exact ⟨by omega, rfl, hS, by decide, ⟨by omega, by omega, by omega, by omega, rfl⟩, fun _ => by omega, R0.out⟩
  have HI : Hid _ := hI
  clear hI R0
  go_enter Tryz.func55, Tryz.ntmps55
  go_wp2_with fail
  rw [← hm0]
  clear hm0
  go_loopw [0, 7] (fun a b wr => ∃ (f n k : Nat) (t : ByteArray) (m : Bool) (h l c : Int), a = .string t ∧ b = .bool m ∧ I f n k t m h l c ∧ RG w h l c wr) (fun a b _ => mG a b)
  case atStart => exact ⟨S.size + 1, 0, 0, S, m0, 0, 0, 0, rfl, rfl, I0, T0⟩
  case round =>
    clear T0 I0
    obtain ⟨f, n, k, t, m, h, l, c, rfl, rfl, hIv, S⟩ := hrel
    have hIv' := hIv
    rw [HI.out] at hIv'
    obtain ⟨hk, hck, ht, hn16, hn, hf0, hh0⟩ := hIv'
    have hf : Hid (m = true → t.size < f) := hf0
    have hh : Hid (R = if m = true then grF last f n k t.data.toList else some (n, k)) := hh0
    clear hf0 hh0 hIv
    cases m with
    | false =>
      have gx : Hid (GI h l c true) := good.out h l c n k (hh.out.trans (by simp)) hn hn16 hk hck
      obtain ⟨O0, O1, O2, O3, O4, O5, O6⟩ := S.1.three
      obtain ⟨N0, N1, N2, N3, N4, N5, N6⟩ := S.2.1.three
      have hB := S.2.2
      clear bad good hh hn hn16 hck hf
      go_wp2
      refine bodyPost_ret (v := .tuple #[gv h l c, .bool true]) (by simp [results, Tryz.results55, go_sem, World.cell?_setCell_same', World.cell?_setCell_other, *]) rfl ⟨h, l, c, true, rfl, gx, by repeat (first | with_reducible exact Below.refl _ _ | with_reducible refine Below.drew ?_ | with_reducible refine Below.alloc ?_ (by first | omega | (simp <;> omega)) _ | with_reducible refine Below.setCell ?_ (by first | omega | (simp <;> omega)) _ | with_reducible refine Below.trans ?_ (Below.mono hB (by first | omega | (simp <;> omega))))⟩
    | true =>
      have hft := hf.out rfl
      obtain ⟨f', rfl⟩ : ∃ f', f = f' + 1 := ⟨f - 1, by omega⟩
      have LS := Lx _ S.2.2
      have CC := cut_c t ⟨#[58]⟩ (by simp) ht wr LS
      have cl := cutG_len [58] (by simp) t.data.toList
      have hR := hh.out
      rw [if_pos rfl] at hR
      unfold grF at hR
      obtain ⟨d, hd⟩ : ∃ d, d = (cutG [58] t.data.toList).1 := ⟨_, rfl⟩
      obtain ⟨r, hr⟩ : ∃ r, r = (cutG [58] t.data.toList).2.1 := ⟨_, rfl⟩
      obtain ⟨m, hm⟩ : ∃ m, m = (cutG [58] t.data.toList).2.2 := ⟨_, rfl⟩
      have tl : t.data.toList.length = t.size := by simp
      simp only [] at CC
      rw [← hd, ← hr, ← hm] at CC cl hR
      clear hd hr hm hh hf
      obtain ⟨D, hD⟩ : ∃ D : ByteArray, D = ⟨d.toArray⟩ := ⟨_, rfl⟩
      obtain ⟨Rt, hRt⟩ : ∃ Rt : ByteArray, Rt = ⟨r.toArray⟩ := ⟨_, rfl⟩
      have dl : D.data.toList = d := by rw [hD]
      have rl : Rt.data.toList = r := by rw [hRt]
      have dsz : D.size ≤ 1000000 := by rw [hD]; show d.toArray.size ≤ 1000000; rw [List.size_toArray]; omega
      have rsz : Rt.size ≤ 1000000 := by rw [hRt]; show r.toArray.size ≤ 1000000; rw [List.size_toArray]; omega
      have rlt : Hid (m = true → Rt.size < t.size) := fun h => by rw [hRt]; have := cl.2.2 h; show r.toArray.size < t.size; rw [List.size_toArray]; omega
      rw [← hD, ← hRt] at CC
      clear hD hRt
      rw [← dl, ← rl] at hR
      clear dl rl cl tl
      have c0 : 0 ≤ c := by omega
      have c8 : c ≤ 8 := by omega
      have HC : Hid (c = (k : Int)) := hck
      have HR : Hid _ := hR
      have HF : Hid (t.size < f' + 1) := hft
      clear hck hR hft
      go_wp2_with fail
      refine CC.mono ?_
      rintro e w1 ⟨rfl, hb1⟩
      clear CC
      have S1 := S.below hb1
      have L1 := Lx _ S1.2.2
      clear S LS hb1
      obtain ⟨J, hJ⟩ : ∃ J : Nat → Nat → Int → Int → Int → Prop, J = fun (n' k' : Nat) (h' l' c' : Int) => c' = (k' : Int) ∧ (R = if 8 < k' then none else if m = true then grF last f' n' k' Rt.data.toList else some (n', k')) ∧ (k' ≤ 8 → n' < 2 ^ (16 * k') ∧ IsNum h' l' n') := ⟨_, rfl⟩
      have HJ : Hid _ := hJ
      clear hJ
      go_wp2_with fail
      refine (readGroup_c D _ L1).mono ?_
      rintro e w2 ⟨x, ok, rfl, hg, hb2⟩
      have S2 := S1.below hb2
      have L2 := Lx _ S2.2.2
      clear S1 L1 hb2
      go_upto_if 27 with fail
      go_cut [16] (fun t wc => ∃ (n' k' : Nat) (h' l' c' : Int), J n' k' h' l' c' ∧ 0 ≤ c' ∧ c' ≤ 10 ∧ RG w h' l' c' wc)
      case first =>
        have HN16 : Hid (n < 2 ^ (16 * k)) := hn16
        have HK : Hid (k ≤ 8) := hk
        clear HI good rlt HF rsz hn16 ht hS hk
        have hg' := hg.out
        clear hg
        obtain ⟨O0, O1, O2, O3, O4, O5, O6⟩ := S2.1.three
        obtain ⟨N0, N1, N2, N3, N4, N5, N6⟩ := S2.2.1.three
        rcases hg' with ⟨v, hv, hxv, hv16, rfl⟩ | ⟨hv, rfl, rfl⟩
        · have hxn : IsNum 0 x v := ⟨by omega, by omega, by omega, by omega, by omega⟩
          have hR := HR.out
          simp only [hv] at hR
          obtain ⟨rh, rl, hr⟩ := IsNum.ex (n := (n * 2 ^ (16 * (1 : Int)).toNat % 340282366920938463463374607431768211456) ||| v) (Nat.or_lt_two_pow (n := 128) (Nat.mod_lt _ (by decide)) (by omega))
          have WC := fun w' => with_c hn hxn c0 (by omega) (by omega) (by omega) hr w'
          have JJ : Hid (J (n * 65536 + v) (k + 1) rh rl (c + 1)) := by
            show J _ _ _ _ _
            rw [HJ.out]
            refine ⟨by have := HC.out; omega, hR, fun h8 => ?_⟩
            obtain ⟨q1, q2⟩ := two16 (s := 1) HN16.out h8 hv16
            exact ⟨q2, hr.cast q1⟩
          have S3 := S2.alloc (.cells #[.int .u64 0, .int .u64 x] 24)
          clear hxn hv HR hxv hR hr hn bad HJ
          go_wp2_with fail
          refine (WC _).mono ?_
          rintro e w4 ⟨rfl, hb4⟩
          have S4 := S3.below hb4
          clear WC S3 S2 hb4 O0 O1 O2 O3 O4 O5 O6 N0 N1 N2 N3 N4 N5 N6
          have S5 : Hid _ := S4.put rh rl (c + 1)
          obtain ⟨N0, N1, N2, N3, N4, N5, N6⟩ := S4.2.1.three
          clear S4
          go_wp2
          go_meet
          case rel => exact ⟨n * 65536 + v, k + 1, rh, rl, c + 1, JJ.out, by omega, by omega, S5.out⟩
        · have hR := HR.out
          simp only [hv] at hR
          have S3 := S2.alloc (.cells #[.int .u64 0, .int .u64 0] 24)
          have L3 := Lx _ S3.2.2
          clear HR hv
          go_wp2_with fail
          refine (readShort_w D dsz _ L3).mono ?_
          rintro e w3 ⟨vh, vl, ok, rfl, hg, hb3⟩
          have S4 := S3.below hb3
          clear S3 S2 L3 L2 hb3 O0 O1 O2 O3 O4 O5 O6 N0 N1 N2 N3 N4 N5 N6
          have hg' := hg.out
          clear hg
          obtain ⟨O0, O1, O2, O3, O4, O5, O6⟩ := S4.1.three
          obtain ⟨N0, N1, N2, N3, N4, N5, N6⟩ := S4.2.1.three
          have hB := S4.2.2
          rcases hg' with ⟨v, hv, hv32, hvn, rfl⟩ | ⟨hv, rfl, rfl, rfl⟩
          · simp only [hv] at hR
            by_cases hlm : last = true ∧ m = false
            · rw [if_pos hlm] at hR
              obtain ⟨rh, rl, hr⟩ := IsNum.ex (n := (n * 2 ^ (16 * (2 : Int)).toNat % 340282366920938463463374607431768211456) ||| v) (Nat.or_lt_two_pow (n := 128) (Nat.mod_lt _ (by decide)) (by omega))
              have WC := fun w' => with_c hn hvn c0 (by omega) (by omega) (by omega) hr w'
              have JJ : Hid (J (n * 4294967296 + v) (k + 2) rh rl (c + 2)) := by
                show J _ _ _ _ _
                rw [HJ.out]
                refine ⟨by have := HC.out; omega, by rw [hR, hlm.2]; rfl, fun h8 => ?_⟩
                obtain ⟨q1, q2⟩ := two16 (s := 2) HN16.out h8 (show v < 2 ^ (16 * 2) from hv32)
                exact ⟨q2, hr.cast q1⟩
              obtain ⟨rfl, rfl⟩ := hlm
              have S5 := S4.alloc (.cells #[.int .u64 vh, .int .u64 vl] 24)
              clear hv hR hr hn hvn bad HJ S4
              go_wp2_with fail
              refine (WC _).mono ?_
              rintro e w4 ⟨rfl, hb4⟩
              have S6 := S5.below hb4
              clear WC S5 hb4 O0 O1 O2 O3 O4 O5 O6 N0 N1 N2 N3 N4 N5 N6 hB
              have S7 : Hid _ := S6.put rh rl (c + 2)
              obtain ⟨N0, N1, N2, N3, N4, N5, N6⟩ := S6.2.1.three
              clear S6
              go_wp2
              go_meet
              case rel => exact ⟨n * 4294967296 + v, k + 2, rh, rl, c + 2, JJ.out, by omega, by omega, S7.out⟩
            · rw [if_neg hlm] at hR
              have gx : Hid (GI 0 0 0 false) := bad.out hR
              clear hR bad hvn hn hv HJ S4
              cases last
              · go_wp2
                refine bodyPost_ret (v := .tuple #[gv 0 0 0, .bool false]) (by simp [results, Tryz.results55, go_sem, World.cell?_setCell_same', World.cell?_setCell_other, *]) rfl ⟨0, 0, 0, false, rfl, gx, by repeat (first | with_reducible exact Below.refl _ _ | with_reducible refine Below.drew ?_ | with_reducible refine Below.alloc ?_ (by first | omega | (simp <;> omega)) _ | with_reducible refine Below.setCell ?_ (by first | omega | (simp <;> omega)) _ | with_reducible refine Below.trans ?_ (Below.mono hB (by first | omega | (simp <;> omega))))⟩
              · cases m
                · exact absurd ⟨rfl, rfl⟩ hlm
                · clear hlm
                  go_wp2
                  refine bodyPost_ret (v := .tuple #[gv 0 0 0, .bool false]) (by simp [results, Tryz.results55, go_sem, World.cell?_setCell_same', World.cell?_setCell_other, *]) rfl ⟨0, 0, 0, false, rfl, gx, by repeat (first | with_reducible exact Below.refl _ _ | with_reducible refine Below.drew ?_ | with_reducible refine Below.alloc ?_ (by first | omega | (simp <;> omega)) _ | with_reducible refine Below.setCell ?_ (by first | omega | (simp <;> omega)) _ | with_reducible refine Below.trans ?_ (Below.mono hB (by first | omega | (simp <;> omega))))⟩
          · simp only [hv] at hR
            have gx : Hid (GI 0 0 0 false) := bad.out hR
            clear hR bad hn hv HJ S4
            go_wp2
            refine bodyPost_ret (v := .tuple #[gv 0 0 0, .bool false]) (by simp [results, Tryz.results55, go_sem, World.cell?_setCell_same', World.cell?_setCell_other, *]) rfl ⟨0, 0, 0, false, rfl, gx, by repeat (first | with_reducible exact Below.refl _ _ | with_reducible refine Below.drew ?_ | with_reducible refine Below.alloc ?_ (by first | omega | (simp <;> omega)) _ | with_reducible refine Below.setCell ?_ (by first | omega | (simp <;> omega)) _ | with_reducible refine Below.trans ?_ (Below.mono hB (by first | omega | (simp <;> omega))))⟩
      case rest =>
        obtain ⟨n', k', h', l', c', hJJ, c0', c1', S5⟩ := hcut
        rw [HJ.out] at hJJ
        obtain ⟨hc', hR', hn'⟩ := hJJ
        obtain ⟨O0, O1, O2, O3, O4, O5, O6⟩ := S5.1.three
        obtain ⟨N0, N1, N2, N3, N4, N5, N6⟩ := S5.2.1.three
        have hB := S5.2.2
        by_cases h8 : 8 < k'
        · rw [if_pos h8] at hR'
          have gx : Hid (GI 0 0 0 false) := bad.out hR'
          have h8' : 8 < c' := by omega
          clear hc' hR' hn' HI HJ HR bad good S5 S2 L2 hg hn hn16
          go_wp2
          refine bodyPost_ret (v := .tuple #[gv 0 0 0, .bool false]) (by simp [results, Tryz.results55, go_sem, World.cell?_setCell_same', World.cell?_setCell_other, *]) rfl ⟨0, 0, 0, false, rfl, gx, by repeat (first | with_reducible exact Below.refl _ _ | with_reducible refine Below.drew ?_ | with_reducible refine Below.alloc ?_ (by first | omega | (simp <;> omega)) _ | with_reducible refine Below.setCell ?_ (by first | omega | (simp <;> omega)) _ | with_reducible refine Below.trans ?_ (Below.mono hB (by first | omega | (simp <;> omega))))⟩
        · rw [if_neg h8] at hR'
          have h8' : ¬ 8 < c' := by omega
          have II : Hid (I f' n' k' Rt m h' l' c') := by
            show I _ _ _ _ _ _ _ _
            rw [HI.out]
            exact ⟨by omega, hc', rsz, (hn' (by omega)).1, (hn' (by omega)).2, fun h => by have := rlt.out h; have := HF.out; omega, hR'⟩
          have S6 : Hid _ := S5
          clear hc' hR' hn' HI HJ HR bad good S5 S2 L2 hg hn hn16 hB
          go_wp2
          go_roundw
          case measure =>
            cases m
            · simp [mG]
            · simpa [mG] using rlt.out rfl
          case rel => exact ⟨f', n', k', Rt, m, h', l', c', rfl, rfl, II.out, S6.out⟩
end Go.Proofs.YtipjmmhlfmahbaaGreatDoor
