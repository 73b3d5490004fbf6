/-
  What readShort of package addr returns, for every text of up to 1000000 bytes.
-/
import Derived.Test.YtgbpnekinbdadaaDoorRead
import Derived.Test.YtgbpnekinbdadaaDoorCutM
namespace Go.Proofs.YtgbpnekinbdadaaDoor
open Go.ChangeShapes Go.WideShapes Go.ChangeAt Go.RowKit
set_option linter.unusedVariables false
set_option linter.unusedSimpArgs false

/-- What num.Parse answers of a part: a number below 256 or something else. -/
def PartIs (l : List UInt8) (vh vl ec : Int) : Prop :=
  (ec = 0 ∧ ∃ n, IsNum vh vl n ∧ decV l = (if n < 256 then some n else none)) ∨ (ec ≠ 0 ∧ decV l = none)

theorem part_c (t : ByteArray) (hs : t.size ≤ 1000000) (w : World) :
    Calls Tryd.prog 47 #[.string t] w fun e w' => ∃ vh vl ec : Int, e = .returned (.tuple #[nv vh vl, .int .i64 ec]) ∧ PartIs t.data.toList vh vl ec ∧ Below w.heap.size w w' := by
  have ht : (⟨t.data.toList.toArray⟩ : ByteArray) = t := rfl
  have hl : t.data.toList.length = t.size := by simp
  by_cases hp : Printed t
  · have hv : decV t.data.toList = if valN t t.size < 256 then some (valN t t.size) else none := by
      unfold decV
      rw [ht, hl]
      by_cases h : valN t t.size < 256
      · rw [if_pos ⟨hp, h⟩, if_pos h]
      · rw [if_neg (fun c => h c.2), if_neg h]
    by_cases h39 : 39 < t.size
    · refine (parse_long t hs hp h39 w).mono ?_
      rintro e w' ⟨rfl, hb⟩
      refine ⟨0, 0, 11, rfl, Or.inr ⟨by omega, ?_⟩, hb⟩
      have := valN_ge t hp t.size (by omega) (Nat.le_refl _) (by omega)
      have p : 10 ^ 39 ≤ 10 ^ (t.size - 1) := Nat.pow_le_pow_right (by decide) (by omega)
      have q : (10 : Nat) ^ 39 = 1000000000000000000000000000000000000000 := by decide
      rw [hv, if_neg (by omega)]
    · refine (parse_dig t hp (by omega) w).mono ?_
      rintro e w' (⟨h, l, rfl, hn, hb⟩ | ⟨hbig, rfl, hb⟩)
      · exact ⟨h, l, 0, rfl, Or.inl ⟨rfl, _, hn, hv⟩, hb⟩
      · exact ⟨0, 0, 11, rfl, Or.inr ⟨by omega, by rw [hv, if_neg (by omega)]⟩, hb⟩
  · refine (parse_form t hs hp w).mono ?_
    rintro e w' ⟨rfl, hb⟩
    refine ⟨0, 0, 4, rfl, Or.inr ⟨by omega, ?_⟩, hb⟩
    unfold decV
    rw [ht, if_neg (fun c => hp c.1)]

/-- What the loop of readShort keeps. -/
def RS (w : World) (h l : Int) (wr : World) : Prop :=
  Blk wr w.heap.size #[.int .u64 0, .int .u64 0] 24 ∧ Blk wr (w.heap.size + 1) #[.int .u64 h, .int .u64 l] 24 ∧ Below w.heap.size w wr

theorem RS.via {w W W0 w1 : World} {h l : Int} (hb : Below W.heap.size W w1) (s : RS w h l W0) (e : W.heap = W0.heap) (e1 : W.os = W0.os) (e2 : W.tape = W0.tape) (e3 : W.output = W0.output) : RS w h l w1 :=
  ⟨s.1.via hb e, s.2.1.via hb e, Below.via hb s.2.2 (Nat.le_refl _) e e1 e2 e3⟩

theorem RS.below {w W w1 : World} {h l : Int} (s : RS w h l W) (hb : Below W.heap.size W w1) : RS w h l w1 := RS.via hb s rfl rfl rfl rfl

theorem RS.alloc {w W : World} {h l : Int} (s : RS w h l W) (o : Obj) : RS w h l (W.alloc o) :=
  ⟨s.1.alloc o, s.2.1.alloc o, s.2.2.alloc (Nat.le_of_lt s.1.lt) o⟩

theorem RS.put {w W : World} {h l : Int} (s : RS w h l W) (h' l' : Int) : RS w h' l' ((W.setCell ⟨w.heap.size + 1, 0, none⟩ (.int .u64 h')).setCell ⟨w.heap.size + 1, 1, none⟩ (.int .u64 l')) :=
  ⟨s.1.far2 (by omega) _ _, s.2.1.put2 _ _, (s.2.2.setCell (by show _ ≤ w.heap.size + 1; omega) _).setCell (by show _ ≤ w.heap.size + 1; omega) _⟩

/-- What readShort answers. -/
def ShortIs (l : List UInt8) (h lo : Int) (ok : Bool) : Prop := (∃ n, shortF 3 0 l = some n ∧ n < 4294967296 ∧ IsNum h lo n ∧ ok = true) ∨ (shortF 3 0 l = none ∧ h = 0 ∧ lo = 0 ∧ ok = false)

set_option maxRecDepth 100000 in
set_option maxHeartbeats 3200000 in
theorem readShort_w (S : ByteArray) (hS : S.size ≤ 1000000) (w : World) (hL : LW w) :
    Calls Tryd.prog 31 #[.string S] w fun e w' => ∃ (h l : Int) (ok : Bool), e = .returned (.tuple #[nv h l, .bool ok]) ∧ Hid (ShortIs S.data.toList h l ok) ∧ Below w.heap.size w w' := by
  have hz := hL.sz
  have Lx : ∀ W, Below w.heap.size w W → LW W := fun W hb => hL.of hb hz
  obtain ⟨GI, hGI⟩ : ∃ GI, ShortIs S.data.toList = GI := ⟨_, rfl⟩
  have bad : Hid (shortF 3 0 S.data.toList = none → GI 0 0 false) := fun h => by rw [← hGI]; exact Or.inr ⟨h, rfl, rfl, rfl⟩
  have good : Hid (∀ (h l : Int) (n : Nat), shortF 3 0 S.data.toList = some n → n < 4294967296 → IsNum h l n → GI h l true) := fun h l n h1 h2 h3 => by rw [← hGI]; exact Or.inl ⟨n, h1, h2, h3, rfl⟩
  rw [hGI]
  clear hGI hL
  obtain ⟨R, hR⟩ : ∃ R, R = shortF 3 0 S.data.toList := ⟨_, rfl⟩
  rw [← hR] at bad good
  have T0 : RS w 0 0 ((w.alloc (.cells #[.int .u64 0, .int .u64 0] 24)).alloc (.cells #[.int .u64 0, .int .u64 0] 24)) :=
    ⟨(Blk.new _ _ _).alloc _, by simpa using Blk.new (w.alloc (.cells #[.int .u64 0, .int .u64 0] 24)) #[.int .u64 0, .int .u64 0] 24, by repeat (first | with_reducible exact Below.refl _ _ | with_reducible refine Below.drew ?_ | with_reducible refine Below.alloc ?_ (by first | omega | (simp <;> omega)) _ | with_reducible refine Below.setCell ?_ (by first | omega | (simp <;> omega)) _)⟩
  have R0 : Hid (R = shR 0 0 S.data.toList) := hR
  clear hR
  go_enter Tryd.func31, Tryd.ntmps31
  go_wp2_with fail
  go_loopw [0, 12] (fun a b wr => ∃ (k n : Nat) (t : ByteArray) (h l : Int), a = .string t ∧ b = .int .i64 k ∧ k ≤ 4 ∧ t.size ≤ 1000000 ∧ n < 256 ^ k ∧ IsNum h l n ∧ Hid (R = shR k n t.data.toList) ∧ RS w h l wr) (fun _ b _ => 4 - (intOf b).toNat)
  case atStart => exact ⟨0, 0, S, 0, 0, rfl, rfl, by omega, hS, by decide, ⟨by omega, by omega, by omega, by omega, rfl⟩, R0, T0⟩
  case round =>
    clear T0 R0
    obtain ⟨k, n, t, h, l, rfl, rfl, hk, ht, hn4, hn, hh, S⟩ := hrel
    by_cases hlt : k < 4
    · have hki : (k : Int) < 4 := by omega
      have LS := Lx _ S.2.2
      have CC := cut_c t ⟨#[46]⟩ (by simp) ht wr LS
      have cl := cutG_len [46] (by simp) t.data.toList
      obtain ⟨d, hd⟩ : ∃ d, d = (cutG [46] t.data.toList).1 := ⟨_, rfl⟩
      obtain ⟨r, hr⟩ : ∃ r, r = (cutG [46] t.data.toList).2.1 := ⟨_, rfl⟩
      obtain ⟨m, hm⟩ : ∃ m, m = (cutG [46] t.data.toList).2.2 := ⟨_, rfl⟩
      have tl : t.data.toList.length = t.size := by simp
      have hs1 : ∀ v, decV d = some v → m = decide (k ≠ 3) → shR k n t.data.toList = shR (k + 1) (n * 256 + v) r := fun v h1 h2 => by
        rw [hr]; exact shR_step hlt (by rw [← hd]; exact h1) (by rw [← hm]; exact h2)
      have hs2 : decV d = none ∨ m = decide (k = 3) → shR k n t.data.toList = none := fun h1 => shR_none hlt (by rw [← hd, ← hm]; exact h1)
      simp only [] at CC
      rw [← hd, ← hr, ← hm] at CC cl
      clear hd hr hm
      obtain ⟨D, hD⟩ : ∃ D : ByteArray, D = ⟨d.toArray⟩ := ⟨_, rfl⟩
      obtain ⟨Rt, hRt⟩ : ∃ Rt : ByteArray, Rt = ⟨r.toArray⟩ := ⟨_, rfl⟩
      have dl : D.data.toList = d := by rw [hD]
      have rl : Rt.data.toList = r := by rw [hRt]
      have dsz : D.size ≤ 1000000 := by rw [hD]; simp [ByteArray.size]; omega
      have rsz : Rt.size ≤ 1000000 := by rw [hRt]; simp [ByteArray.size]; omega
      rw [← hD, ← hRt] at CC
      clear hD hRt
      rw [← dl] at hs1 hs2
      rw [← rl] at hs1
      clear dl rl cl tl
      have PC := fun w' => part_c D dsz w'
      have H1 : Hid _ := hs1
      have H2 : Hid _ := hs2
      clear hs1 hs2
      go_wp2_with fail
      refine CC.mono ?_
      rintro e w1 ⟨rfl, hb1⟩
      clear CC
      go_wp2_with fail
      refine (PC _).mono ?_
      rintro e w2 ⟨vh, vl, ec, rfl, hpt, hb2⟩
      have S2 := (S.below hb1).below hb2
      clear PC hb1 hb2 S LS
      obtain ⟨O0, O1, O2, O3, O4⟩ := S2.1.two
      obtain ⟨N0, N1, N2, N3, N4⟩ := S2.2.1.two
      rcases hpt with ⟨rfl, v, hv, hdv⟩ | ⟨hec, hdv⟩
      · by_cases h256 : v < 256
        · rw [if_pos h256] at hdv
          have hlen : Go.bitLen v ≤ 8 := bitLen_le_of_lt (by simpa using h256)
          obtain ⟨z, hz2⟩ : ∃ z : Int, z = (Go.bitLen v : Nat) := ⟨_, rfl⟩
          have z8 : ¬ 8 < z := by omega
          have LC := fun w' => len_is hv hz2 w'
          clear hz2 hlen
          by_cases hmk : m = decide (k = 3)
          · have gx : Hid (GI 0 0 false) := bad.out (hh.out.trans (H2.out (Or.inr hmk)))
            have e1 : (m == ((k : Int) == 3)) = true := by rw [hmk, beq_iff_eq, Bool.eq_iff_iff]; simp; omega
            clear hmk H1 H2 hdv hh hv good
            go_wp2_with fail
            refine (LC _).mono ?_
            rintro e w3 ⟨rfl, hb3⟩
            obtain ⟨hc3, hf3⟩ := bcell hb3
            have hz_w3_0 : w.heap.size < w3.heap.size   := (by have := hb3.size; first | omega | (simp at this; omega))
            have hz_w3_1 : w.heap.size + 1 < w3.heap.size   := (by have := hb3.size; first | omega | (simp at this; omega))
            have S3 := (S2.alloc (.cells #[.int .u64 vh, .int .u64 vl] 24)).below hb3
            obtain ⟨Q0, Q1, Q2, Q3, Q4⟩ := S3.1.two
            have hB := S3.2.2
            clear LC hc3 hf3
            go_wp2
            refine bodyPost_ret (v := .tuple #[nv 0 0, .bool false]) (by simp [results, Tryd.results31, go_sem, World.cell?_setCell_same', World.cell?_setCell_other, *]) rfl ⟨0, 0, false, rfl, gx, by repeat (first | with_reducible exact Below.refl _ _ | with_reducible refine Below.drew ?_ | with_reducible refine Below.alloc ?_ (by first | omega | (simp <;> omega)) _ | with_reducible refine Below.setCell ?_ (by first | omega | (simp <;> omega)) _ | with_reducible refine Below.trans ?_ (Below.mono hB (by first | omega | (simp <;> omega))))⟩
          · have hm' : m = decide (k ≠ 3) := by
              cases m <;> by_cases c : k = 3 <;> simp_all
            have e1 : (m == ((k : Int) == 3)) = false := by
              rw [hm', beq_eq_false_iff_ne]
              by_cases c : k = 3
              · subst c; simp
              · have : ((k : Int) == 3) = false := by rw [beq_eq_false_iff_ne]; omega
                rw [this]; simp [c]
            have n24 : n < 16777216 := by
              have : 256 ^ k ≤ 256 ^ 3 := Nat.pow_le_pow_right (by decide) (by omega)
              rw [show (256 : Nat) ^ 3 = 16777216 by decide] at this
              omega
            have up : n * 256 + v < 256 ^ (k + 1) := by rw [Nat.pow_succ]; omega
            obtain ⟨sh, sl, hs⟩ := IsNum.ex (n := n * 2 ^ (8 : Int).toNat % 340282366920938463463374607431768211456) (Nat.mod_lt _ (by decide))
            have hs' : IsNum sh sl (n * 256) := hs.cast (by rw [show 2 ^ (8 : Int).toNat = 256 from rfl]; omega)
            obtain ⟨rh, rl, hr⟩ := IsNum.ex (n := n * 256 + v) (by omega)
            have hor : n * 256 ||| v = n * 256 + v := by
              have := or_add 8 n v (by simpa using h256)
              rwa [show (2 : Nat) ^ 8 = 256 by decide, Nat.mul_comm 256] at this
            have C1 : Hid (∀ w, Calls Tryd.prog 49 #[nv h l, .int .i64 8] w fun e w' => e = .returned (nv sh sl) ∧ Below w.heap.size w w') := fun w => shl_is hn (by omega) hs w
            have C3 : Hid (∀ w, Calls Tryd.prog 48 #[nv sh sl, nv vh vl] w fun e w' => e = .returned (nv rh rl) ∧ Below w.heap.size w w') := fun w => or_is hs' hv (hr.cast hor.symm) w
            have hh' : Hid (R = shR (k + 1) (n * 256 + v) Rt.data.toList) := hh.out.trans (H1.out v hdv hm')
            have hr' : Hid (IsNum rh rl (n * 256 + v)) := hr
            have up' : Hid (n * 256 + v < 256 ^ (k + 1)) := up
            clear hm' hmk hs hs' hr hor hdv H1 H2 hh hv hn up n24 h256 hn4 bad good
            go_wp2_with fail
            refine (LC _).mono ?_
            rintro e w3 ⟨rfl, hb3⟩
            obtain ⟨hc3, hf3⟩ := bcell hb3
            have hz_w3_0 : w.heap.size < w3.heap.size   := (by have := hb3.size; first | omega | (simp at this; omega))
            have hz_w3_1 : w.heap.size + 1 < w3.heap.size   := (by have := hb3.size; first | omega | (simp at this; omega))
            have hz_w3_2 : w2.heap.size < w3.heap.size   := (by have := hb3.size; first | omega | (simp at this; omega))
            have S3 := (S2.alloc (.cells #[.int .u64 vh, .int .u64 vl] 24)).below hb3
            clear LC
            go_wp2_with fail
            refine wp_region_held_drew (S := fun _ => True) (by kernel_rfl) trivial (fun hHeld => ?_)
            refine wpAnyH_ready (rs := [0, 2]) (by kernel_rfl) (by simp) ?rdy1
            refine (AllReadyH.cons (List.getElem?_toArray.trans rfl) (fun K hK => ?stp1_0) (AllReadyH.cons (List.getElem?_toArray.trans rfl) (fun K hK => ?stp1_2) AllReadyH.nil))
            case stp1_0 =>
              go_simp
              go_wp2_with fail
              refine hK.out _ _ trivial (fun hHeld2 => ?_)
              clear hK K hHeld2
              try simp only [Act.put, List.setIfInBounds_toArray, List.set_cons_zero, List.set_cons_succ]
              refine wpAnyH_ready (rs := [1, 2]) (by kernel_rfl) (by simp) ?rdy2
              refine (AllReadyH.cons (List.getElem?_toArray.trans rfl) (fun K hK => ?stp2_1) (AllReadyH.cons (List.getElem?_toArray.trans rfl) (fun K hK => ?stp2_2) AllReadyH.nil))
              case stp2_1 =>
                go_simp
                go_wp2_with fail
                (refine (C1.out _).mono ?_; rintro e w4 ⟨rfl, hb4⟩; obtain ⟨hc4, hf4⟩ := bcellv (W0 := w3) hb4 rfl; have hz_w4_0 : w.heap.size < w4.heap.size   := (by have := hb4.size; first | omega | (simp at this; omega)); have hz_w4_1 : w.heap.size + 1 < w4.heap.size   := (by have := hb4.size; first | omega | (simp at this; omega)); have hz_w4_2 : w2.heap.size < w4.heap.size   := (by have := hb4.size; first | omega | (simp at this; omega)))
                go_wp2_with fail
                refine hK.out _ _ trivial (fun hHeld2 => ?_)
                clear hK K hHeld2
                try simp only [Act.put, List.setIfInBounds_toArray, List.set_cons_zero, List.set_cons_succ]
                refine wpAnyH_ready (rs := [2]) (by kernel_rfl) (by simp) ?rdy3
                refine (AllReadyH.cons (List.getElem?_toArray.trans rfl) (fun K hK => ?stp3_2) AllReadyH.nil)
                case stp3_2 =>
                  go_simp
                  go_wp2_with fail
                  refine hK.out _ _ trivial (fun hHeld2 => ?_)
                  clear hK K hHeld2
                  try simp only [Act.put, List.setIfInBounds_toArray, List.set_cons_zero, List.set_cons_succ]
                  refine wpAnyH_ready (rs := [3]) (by kernel_rfl) (by simp) ?rdy4
                  refine (AllReadyH.cons (List.getElem?_toArray.trans rfl) (fun K hK => ?stp4_3) AllReadyH.nil)
                  case stp4_3 =>
                    go_simp
                    go_wp2_with fail
                    (refine (C3.out _).mono ?_; rintro e w5 ⟨rfl, hb5⟩; obtain ⟨hc5, hf5⟩ := bcell hb5; have hz_w5_0 : w.heap.size < w5.heap.size   := (by have := hb5.size; first | omega | (simp at this; omega)); have hz_w5_1 : w.heap.size + 1 < w5.heap.size   := (by have := hb5.size; first | omega | (simp at this; omega)))
                    go_wp2_with fail
                    refine hK.out _ _ trivial (fun hHeld2 => ?_)
                    clear hK K hHeld2
                    try simp only [Act.put, List.setIfInBounds_toArray, List.set_cons_zero, List.set_cons_succ]
                    refine wpAnyH_ready (rs := [4]) (by kernel_rfl) (by simp) ?rdy5
                    refine (AllReadyH.cons (List.getElem?_toArray.trans rfl) (fun K hK => ?stp5_4) AllReadyH.nil)
                    case stp5_4 =>
                      go_simp
                      go_wp2_with fail
                      refine hK.out _ _ trivial (fun hHeld2 => ?_)
                      clear hK K hHeld2
                      try simp only [Act.put, List.setIfInBounds_toArray, List.set_cons_zero, List.set_cons_succ]
                      refine wpAnyH_done (by kernel_rfl) ?_ _
                      go_wp2
                      go_roundw
                      case measure => simp [intOf]; omega
                      case rel => exact ⟨k + 1, n * 256 + v, Rt, rh, rl, rfl, by go_num, by omega, rsz, up'.out, hr'.out, hh', (RS.via hb5 (RS.via hb4 S3 rfl rfl rfl rfl) rfl rfl rfl rfl).put rh rl⟩
              case stp2_2 =>
                go_simp
                go_wp2_with fail
                refine hK.out _ _ trivial (fun hHeld2 => ?_)
                clear hK K hHeld2
                try simp only [Act.put, List.setIfInBounds_toArray, List.set_cons_zero, List.set_cons_succ]
                refine wpAnyH_ready (rs := [1]) (by kernel_rfl) (by simp) ?rdy6
                refine (AllReadyH.cons (List.getElem?_toArray.trans rfl) (fun K hK => ?stp6_1) AllReadyH.nil)
                case stp6_1 =>
                  go_simp
                  go_wp2_with fail
                  (refine (C1.out _).mono ?_; rintro e w4 ⟨rfl, hb4⟩; obtain ⟨hc4, hf4⟩ := bcellv (W0 := w3) hb4 rfl; have hz_w4_0 : w.heap.size < w4.heap.size   := (by have := hb4.size; first | omega | (simp at this; omega)); have hz_w4_1 : w.heap.size + 1 < w4.heap.size   := (by have := hb4.size; first | omega | (simp at this; omega)); have hz_w4_2 : w2.heap.size < w4.heap.size   := (by have := hb4.size; first | omega | (simp at this; omega)))
                  go_wp2_with fail
                  refine hK.out _ _ trivial (fun hHeld2 => ?_)
                  clear hK K hHeld2
                  try simp only [Act.put, List.setIfInBounds_toArray, List.set_cons_zero, List.set_cons_succ]
                  refine wpAnyH_ready (rs := [3]) (by kernel_rfl) (by simp) ?rdy7
                  refine (AllReadyH.cons (List.getElem?_toArray.trans rfl) (fun K hK => ?stp7_3) AllReadyH.nil)
                  case stp7_3 =>
                    go_simp
                    go_wp2_with fail
                    (refine (C3.out _).mono ?_; rintro e w5 ⟨rfl, hb5⟩; obtain ⟨hc5, hf5⟩ := bcell hb5; have hz_w5_0 : w.heap.size < w5.heap.size   := (by have := hb5.size; first | omega | (simp at this; omega)); have hz_w5_1 : w.heap.size + 1 < w5.heap.size   := (by have := hb5.size; first | omega | (simp at this; omega)))
                    go_wp2_with fail
                    refine hK.out _ _ trivial (fun hHeld2 => ?_)
                    clear hK K hHeld2
                    try simp only [Act.put, List.setIfInBounds_toArray, List.set_cons_zero, List.set_cons_succ]
                    refine wpAnyH_ready (rs := [4]) (by kernel_rfl) (by simp) ?rdy8
                    refine (AllReadyH.cons (List.getElem?_toArray.trans rfl) (fun K hK => ?stp8_4) AllReadyH.nil)
                    case stp8_4 =>
                      go_simp
                      go_wp2_with fail
                      refine hK.out _ _ trivial (fun hHeld2 => ?_)
                      clear hK K hHeld2
                      try simp only [Act.put, List.setIfInBounds_toArray, List.set_cons_zero, List.set_cons_succ]
                      refine wpAnyH_done (by kernel_rfl) ?_ _
                      go_wp2
                      go_roundw
                      case measure => simp [intOf]; omega
                      case rel => exact ⟨k + 1, n * 256 + v, Rt, rh, rl, rfl, by go_num, by omega, rsz, up'.out, hr'.out, hh', (RS.via hb5 (RS.via hb4 S3 rfl rfl rfl rfl) rfl rfl rfl rfl).put rh rl⟩
            case stp1_2 =>
              go_simp
              go_wp2_with fail
              refine hK.out _ _ trivial (fun hHeld2 => ?_)
              clear hK K hHeld2
              try simp only [Act.put, List.setIfInBounds_toArray, List.set_cons_zero, List.set_cons_succ]
              refine wpAnyH_ready (rs := [0]) (by kernel_rfl) (by simp) ?rdy9
              refine (AllReadyH.cons (List.getElem?_toArray.trans rfl) (fun K hK => ?stp9_0) AllReadyH.nil)
              case stp9_0 =>
                go_simp
                go_wp2_with fail
                refine hK.out _ _ trivial (fun hHeld2 => ?_)
                clear hK K hHeld2
                try simp only [Act.put, List.setIfInBounds_toArray, List.set_cons_zero, List.set_cons_succ]
                refine wpAnyH_ready (rs := [1]) (by kernel_rfl) (by simp) ?rdy10
                refine (AllReadyH.cons (List.getElem?_toArray.trans rfl) (fun K hK => ?stp10_1) AllReadyH.nil)
                case stp10_1 =>
                  go_simp
                  go_wp2_with fail
                  (refine (C1.out _).mono ?_; rintro e w4 ⟨rfl, hb4⟩; obtain ⟨hc4, hf4⟩ := bcellv (W0 := w3) hb4 rfl; have hz_w4_0 : w.heap.size < w4.heap.size   := (by have := hb4.size; first | omega | (simp at this; omega)); have hz_w4_1 : w.heap.size + 1 < w4.heap.size   := (by have := hb4.size; first | omega | (simp at this; omega)); have hz_w4_2 : w2.heap.size < w4.heap.size   := (by have := hb4.size; first | omega | (simp at this; omega)))
                  go_wp2_with fail
                  refine hK.out _ _ trivial (fun hHeld2 => ?_)
                  clear hK K hHeld2
                  try simp only [Act.put, List.setIfInBounds_toArray, List.set_cons_zero, List.set_cons_succ]
                  refine wpAnyH_ready (rs := [3]) (by kernel_rfl) (by simp) ?rdy11
                  refine (AllReadyH.cons (List.getElem?_toArray.trans rfl) (fun K hK => ?stp11_3) AllReadyH.nil)
                  case stp11_3 =>
                    go_simp
                    go_wp2_with fail
                    (refine (C3.out _).mono ?_; rintro e w5 ⟨rfl, hb5⟩; obtain ⟨hc5, hf5⟩ := bcell hb5; have hz_w5_0 : w.heap.size < w5.heap.size   := (by have := hb5.size; first | omega | (simp at this; omega)); have hz_w5_1 : w.heap.size + 1 < w5.heap.size   := (by have := hb5.size; first | omega | (simp at this; omega)))
                    go_wp2_with fail
                    refine hK.out _ _ trivial (fun hHeld2 => ?_)
                    clear hK K hHeld2
                    try simp only [Act.put, List.setIfInBounds_toArray, List.set_cons_zero, List.set_cons_succ]
                    refine wpAnyH_ready (rs := [4]) (by kernel_rfl) (by simp) ?rdy12
                    refine (AllReadyH.cons (List.getElem?_toArray.trans rfl) (fun K hK => ?stp12_4) AllReadyH.nil)
                    case stp12_4 =>
                      go_simp
                      go_wp2_with fail
                      refine hK.out _ _ trivial (fun hHeld2 => ?_)
                      clear hK K hHeld2
                      try simp only [Act.put, List.setIfInBounds_toArray, List.set_cons_zero, List.set_cons_succ]
                      refine wpAnyH_done (by kernel_rfl) ?_ _
                      go_wp2
                      go_roundw
                      case measure => simp [intOf]; omega
                      case rel => exact ⟨k + 1, n * 256 + v, Rt, rh, rl, rfl, by go_num, by omega, rsz, up'.out, hr'.out, hh', (RS.via hb5 (RS.via hb4 S3 rfl rfl rfl rfl) rfl rfl rfl rfl).put rh rl⟩
        · rw [if_neg h256] at hdv
          have gx : Hid (GI 0 0 false) := bad.out (hh.out.trans (H2.out (Or.inl hdv)))
          have hlen : 8 < Go.bitLen v := by
            apply Nat.not_le.1
            intro c
            have s := (Go.bitLen_spec v).1
            have p : 2 ^ Go.bitLen v ≤ 2 ^ 8 := Nat.pow_le_pow_right (by decide) c
            rw [show (2 : Nat) ^ 8 = 256 by decide] at p
            omega
          obtain ⟨z, hz2⟩ : ∃ z : Int, z = (Go.bitLen v : Nat) := ⟨_, rfl⟩
          have z8 : 8 < z := by omega
          have LC := fun w' => len_is hv hz2 w'
          clear hz2 hlen H1 H2 hdv hh hv good h256
          go_wp2_with fail
          refine (LC _).mono ?_
          rintro e w3 ⟨rfl, hb3⟩
          obtain ⟨hc3, hf3⟩ := bcell hb3
          have hz_w3_0 : w.heap.size < w3.heap.size   := (by have := hb3.size; first | omega | (simp at this; omega))
          have hz_w3_1 : w.heap.size + 1 < w3.heap.size   := (by have := hb3.size; first | omega | (simp at this; omega))
          have S3 := (S2.alloc (.cells #[.int .u64 vh, .int .u64 vl] 24)).below hb3
          obtain ⟨Q0, Q1, Q2, Q3, Q4⟩ := S3.1.two
          have hB := S3.2.2
          clear LC hc3 hf3
          go_wp2
          refine bodyPost_ret (v := .tuple #[nv 0 0, .bool false]) (by simp [results, Tryd.results31, go_sem, World.cell?_setCell_same', World.cell?_setCell_other, *]) rfl ⟨0, 0, false, rfl, gx, by repeat (first | with_reducible exact Below.refl _ _ | with_reducible refine Below.drew ?_ | with_reducible refine Below.alloc ?_ (by first | omega | (simp <;> omega)) _ | with_reducible refine Below.setCell ?_ (by first | omega | (simp <;> omega)) _ | with_reducible refine Below.trans ?_ (Below.mono hB (by first | omega | (simp <;> omega))))⟩
      · have gx : Hid (GI 0 0 false) := bad.out (hh.out.trans (H2.out (Or.inl hdv)))
        have e1 : (ec != 0) = true := by simpa using hec
        have e2 : (ec == 0) = false := by simpa using hec
        have hB := S2.2.2
        clear hec H1 H2 hdv hh good
        go_wp2
        refine bodyPost_ret (v := .tuple #[nv 0 0, .bool false]) (by simp [results, Tryd.results31, go_sem, World.cell?_setCell_same', World.cell?_setCell_other, *]) rfl ⟨0, 0, false, rfl, gx, by repeat (first | with_reducible exact Below.refl _ _ | with_reducible refine Below.drew ?_ | with_reducible refine Below.alloc ?_ (by first | omega | (simp <;> omega)) _ | with_reducible refine Below.setCell ?_ (by first | omega | (simp <;> omega)) _ | with_reducible refine Below.trans ?_ (Below.mono hB (by first | omega | (simp <;> omega))))⟩
    · obtain rfl : k = 4 := by omega
      have gx : Hid (GI h l true) := good.out h l n (hh.out.trans (by simp [shR])) (by simpa using hn4) hn
      obtain ⟨O0, O1, O2, O3, O4⟩ := S.1.two
      obtain ⟨N0, N1, N2, N3, N4⟩ := S.2.1.two
      have hB := S.2.2
      clear bad good hh hn hn4
      go_wp2
      refine bodyPost_ret (v := .tuple #[nv h l, .bool true]) (by simp [results, Tryd.results31, go_sem, World.cell?_setCell_same', World.cell?_setCell_other, *]) rfl ⟨h, l, true, rfl, gx, by repeat (first | with_reducible exact Below.refl _ _ | with_reducible refine Below.drew ?_ | with_reducible refine Below.alloc ?_ (by first | omega | (simp <;> omega)) _ | with_reducible refine Below.setCell ?_ (by first | omega | (simp <;> omega)) _ | with_reducible refine Below.trans ?_ (Below.mono hB (by first | omega | (simp <;> omega))))⟩
end Go.Proofs.YtgbpnekinbdadaaDoor
