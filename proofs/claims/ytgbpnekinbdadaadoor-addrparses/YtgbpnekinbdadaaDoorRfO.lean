/-
  OfBytes of the reference of package addr: the address of four or sixteen bytes.
-/
import Derived.Test.YtgbpnekinbdadaaDoorRfD
import Derived.Test.YtgbpnekinbdadaaDoorRef2
namespace Go.Proofs.YtgbpnekinbdadaaDoor
open Go.ChangeShapes Go.WideShapes Go.ChangeAt Go.RowKit
set_option linter.unusedVariables false
set_option linter.unusedSimpArgs false

theorem bnum_lt : ∀ (k : Nat) (bs : List Nat), bs.length = k → (∀ b ∈ bs, b < 256) → bnum 0 bs < 256 ^ k
  | 0, bs, h, _ => by
    have : bs = [] := List.eq_nil_of_length_eq_zero h
    subst this
    simp [bnum]
  | k + 1, bs, h, hb => by
    rcases List.eq_nil_or_concat bs with e | ⟨r, x, e⟩
    · subst e; simp at h
    · rw [List.concat_eq_append] at e
      subst e
      have ih := bnum_lt k r (by simpa using h) (fun b m => hb b (by simp [m]))
      have hx := hb x (by simp)
      rw [bnum_more, Nat.pow_succ]
      omega

/-- Byte j from the end. -/
theorem bnum_at : ∀ (j : Nat) (bs : List Nat), (∀ b ∈ bs, b < 256) → j < bs.length → bnum 0 bs / 256 ^ j % 256 = bs.getD (bs.length - 1 - j) 0
  | j, bs, hb, hj => by
    rcases List.eq_nil_or_concat bs with e | ⟨r, x, e⟩
    · subst e; simp at hj
    · rw [List.concat_eq_append] at e
      subst e
      have hx := hb x (by simp)
      have hl : (r ++ [x]).length = r.length + 1 := by simp
      rw [bnum_more, hl]
      cases j with
      | zero =>
        rw [Nat.pow_zero, Nat.div_one, show r.length + 1 - 1 - 0 = r.length by omega, List.getD_eq_getElem?_getD, List.getElem?_append_right (Nat.le_refl _)]
        simp
        omega
      | succ j =>
        rw [hl] at hj
        have ih := bnum_at j r (fun b m => hb b (by simp [m])) (by omega)
        rw [Nat.pow_succ, Nat.mul_comm (256 ^ j), ← Nat.div_div_eq_div_mul, show (bnum 0 r * 256 + x) / 256 = bnum 0 r by omega, ih, show r.length + 1 - 1 - (j + 1) = r.length - 1 - j by omega]
        rw [List.getD_eq_getElem?_getD, List.getD_eq_getElem?_getD, List.getElem?_append_left (by omega)]

theorem bit_byte {bs : List Nat} (hb : ∀ b ∈ bs, b < 256) {j t : Nat} (hj : j < bs.length) (ht : t < 8) : bitN (bnum 0 bs) (8 * j + t) = bs.getD (bs.length - 1 - j) 0 / 2 ^ t % 2 := by
  rw [← bnum_at j bs hb hj]
  unfold bitN
  rw [Nat.pow_add, Nat.pow_mul, ← Nat.div_div_eq_div_mul, show (2 : Nat) ^ 8 = 256 from rfl]
  generalize bnum 0 bs / 256 ^ j = x
  rcases (show t = 0 ∨ t = 1 ∨ t = 2 ∨ t = 3 ∨ t = 4 ∨ t = 5 ∨ t = 6 ∨ t = 7 by omega) with rfl | rfl | rfl | rfl | rfl | rfl | rfl | rfl
  all_goals
    simp
    try omega

/-- Bits as cells. -/
abbrev bitC (V k : Nat) : List Value := (bitsL V k).map fun x : Int => .int .i64 x

theorem infoI8 : (Tryd.prog.info? 3).map (fun i => (i.zero, i.size, i.bytes)) = some (some (.int .i64 0), 1, 8) := by kernel_rfl

set_option maxRecDepth 100000 in
set_option maxHeartbeats 3200000 in
theorem rofb_c (bs : List Nat) (hb : ∀ b ∈ bs, b < 256) (L : Nat) (hl : bs.length = L) (hL : L = 4 ∨ L = 16) (g cap : Nat) (w : World) (hc : ∀ j x, bs[j]? = some x → w.cell? ⟨g, j, none⟩ = some (.int .u8 (x : Nat))) (hgl : g < w.heap.size) {b16 : Bool} (h16 : b16 = decide (L = 16)) :
    Calls Tryd.prog 33 #[.slice (some ⟨g, 0, none⟩) L cap] w fun e w' => ∃ h l, e = .returned (av b16 h l) ∧ IsNum h l (bnum 0 bs) ∧ Below w.heap.size w w' := by
  obtain ⟨i0, hi, hz0, hz1, hz2⟩ := info_parts infoI8
  obtain ⟨V, hV⟩ : ∃ V, bnum 0 bs = V := ⟨_, rfl⟩
  have BB := hide (fun j t (hj : j < bs.length) (ht : t < 8) => bit_byte hb hj ht)
  have VL : Hid (V < 2 ^ (8 * L)) := by
    have := bnum_lt L bs hl hb
    show V < _
    rw [← hV, Nat.pow_mul]
    exact this
  rw [hV] at BB ⊢
  have HB := hide hb
  have HL := hide hl
  have HC := hide hc
  have W0 : Blk ((w.alloc (.cells #[.bool false, .int .u64 0, .int .u64 0] 26)).alloc (.cells #[] 3)) w.heap.size #[.bool false, .int .u64 0, .int .u64 0] 26 := (Blk.new _ _ _).alloc _
  have O0 : Hid (((w.alloc (.cells #[.bool false, .int .u64 0, .int .u64 0] 26)).alloc (.cells #[] 3)).ownsRow (w.heap.size + 1) 3 1 (.slice (some ⟨w.heap.size + 1, 0, none⟩) 0 0) (8 * 0) (bitC V (8 * 0))) := by
    have := World.ownsRow_made (base := w.heap.size + 1) (e := 3) (size := 1) (w.alloc (.cells #[.bool false, .int .u64 0, .int .u64 0] 26)) #[] 0 (by simp) (by unfold maxLen; omega) (by simp)
    show World.ownsRow _ _ _ _ _ _ _
    simpa [bitC, bitsL] using this
  have B0 : Hid (Below (w.heap.size + 1) ((w.alloc (.cells #[.bool false, .int .u64 0, .int .u64 0] 26)).alloc (.cells #[] 3)) ((w.alloc (.cells #[.bool false, .int .u64 0, .int .u64 0] 26)).alloc (.cells #[] 3))) := Below.refl _ _
  have HW0 := hide W0
  have l0 : (L : Int) ≤ 16 := by omega
  have l1 : (4 : Int) ≤ (L : Int) := by omega
  obtain ⟨w0, hw0⟩ : ∃ w0, w0 = (w.alloc (.cells #[.bool false, .int .u64 0, .int .u64 0] 26)).alloc (.cells #[] 3) := ⟨_, rfl⟩
  have BW : Hid (Below w.heap.size w w0 ∧ w0.heap.size = w.heap.size + 2) := by
    rw [hw0]
    exact ⟨by repeat (first | with_reducible exact Below.refl _ _ | with_reducible refine Below.drew ?_ | with_reducible refine Below.alloc ?_ (by first | omega | (simp <;> omega)) _ | with_reducible refine Below.setCell ?_ (by first | omega | (simp <;> omega)) _), by simp⟩
  clear W0 hb hl hc hV
  go_enter Tryd.func33, Tryd.ntmps33
  go_wp2_with fail
  rw [← hw0] at O0 B0 HW0 ⊢
  clear hw0
  have w0s := BW.out.2
  go_loopw [3, 4] (fun u iv wr => ∃ (j : Nat) (K : Int), j ≤ L ∧ iv = .int .i64 K ∧ Hid (K = (L : Int) - 1 - (j : Int)) ∧ -1 ≤ K ∧ K ≤ 15 ∧ Hid (wr.ownsRow (w.heap.size + 1) 3 1 u (8 * j) (bitC V (8 * j))) ∧ Hid (Below (w.heap.size + 1) w0 wr)) (fun _ iv _ => (intOf iv + 1).toNat)
  case atStart => exact ⟨0, (L : Int) - 1, by omega, rfl, (by show _ = _; simp), by omega, by omega, O0, B0⟩
  case round =>
    clear O0 B0
    obtain ⟨j, K, hj, rfl, hK, K0, K1, hown, hb⟩ := hrel
    have hs := hb.out.size
    have hK' := hK.out
    by_cases hlt : j < L
    · have Kp : 0 ≤ K := by omega
      have KL : K < (L : Int) := by omega
      obtain ⟨X, hX⟩ : ∃ X, bs.getD (L - 1 - j) 0 = X := ⟨_, rfl⟩
      have hbl : bs.length = L := HL.out
      have gx : bs[L - 1 - j]? = some X := by
        rw [← hX, List.getD_eq_getElem?_getD, List.getElem?_eq_getElem (by omega)]
        rfl
      have X1 : X < 256 := HB.out X (List.mem_of_getElem? gx)
      have cw := HC.out _ _ gx
      have cx : wr.cell? ⟨g, K.toNat, none⟩ = some (.int .u8 (X : Nat)) := by
        rw [show K.toNat = L - 1 - j by omega]
        rw [hb.out.cell (p := ⟨g, L - 1 - j, none⟩) (show g < w.heap.size + 1 by omega), BW.out.1.cell (p := ⟨g, L - 1 - j, none⟩) hgl]
        exact cw
      have BX : Hid (∀ t, t < 8 → bitN V (8 * j + t) = X / 2 ^ t % 2) := fun t ht => by rw [BB.out j t (by omega) ht, hbl, hX]
      have R0 : Hid (wr.ownsRow (w.heap.size + 1) 3 1 u3 (8 * j + 0) (bitC V (8 * j + 0))) := hown
      have XI : (X : Int) < 256 := by omega
      clear hX hbl gx cw hown hK'
      go_wp2_with fail
      go_loopw [3, 5, 6] (fun u nv tv wt => ∃ (t : Nat) (Y : Int), t ≤ 8 ∧ tv = .int .i64 t ∧ nv = .int .i64 Y ∧ 0 ≤ Y ∧ Y < 256 ∧ Hid (Y = ((X / 2 ^ t : Nat) : Int)) ∧ Hid (wt.ownsRow (w.heap.size + 1) 3 1 u (8 * j + t) (bitC V (8 * j + t))) ∧ Hid (Below (w.heap.size + 1) w0 wt)) (fun _ _ tv _ => 8 - (intOf tv).toNat)
      case atStart => exact ⟨0, (X : Int), by omega, rfl, rfl, by omega, XI, (by show _ = _; simp), R0, hb⟩
      case round =>
        clear R0 hb hs cx
        obtain ⟨t, Y, ht, rfl, rfl, Y0, Y1, hY, hown, hb⟩ := hrel
        have hs := hb.out.size
        by_cases ht8 : t < 8
        · have hti : (t : Int) < 8 := by omega
          have nx : Hid (bitC V (8 * j + (t + 1)) = bitC V (8 * j + t) ++ [.int .i64 (Y % 2)]) := by
            show bitC V (8 * j + t + 1) = _
            unfold bitC
            rw [bitsL, List.map_append, List.map_cons, List.map_nil, BX.out t ht8, hY.out]
            rfl
          have hh : Hid (Y / 2 = ((X / 2 ^ (t + 1) : Nat) : Int)) := by
            show _ = _
            rw [hY.out, Nat.pow_succ, ← Nat.div_div_eq_div_mul]
            rfl
          have l128 : 8 * j + t ≤ 128 := by omega
          go_wp2_with (first | (at_builtin; refine wpList_append_own _ rfl _ _ 49 rfl (w.heap.size + 1) 3 i0 (.int .i64 0) 1 8 Tryd.underlying49 hi hz0 hz1 hz2 rfl (by decide) _ _ _ rfl (hown.out.alloc _) ⟨wr.heap.size, 0, none⟩ 1 1 [.int .i64 (Y % 2)] rfl rfl (one_new wr _ _) (one_ok _ _) ?c3 ?c4 ?c5 ?_))
          case c3 => unfold maxLen; omega
          case c4 => omega
          case c5 => (first | omega | (simp; omega))
          intro v' w4 hown4 hgrow _
          have B4 := hide (below_grown hb.out (by omega) hown.out hgrow)
          have O4 : Hid (w4.ownsRow (w.heap.size + 1) 3 1 v' (8 * j + (t + 1)) (bitC V (8 * j + (t + 1)))) := by
            show World.ownsRow _ _ _ _ _ _ _
            rw [nx.out]
            exact hown4
          clear hown hgrow hown4 hb nx
          go_wp2
          go_roundw
          case measure => (simp [intOf]; omega)
          case rel => exact ⟨t + 1, Y / 2, by omega, by go_num, rfl, by omega, by omega, hh, O4, B4⟩
        · obtain rfl : t = 8 := by omega
          have O8 : Hid (wr.ownsRow (w.heap.size + 1) 3 1 u3 (8 * (j + 1)) (bitC V (8 * (j + 1)))) := by
            show World.ownsRow _ _ _ _ _ _ _
            rw [show 8 * (j + 1) = 8 * j + 8 by omega]
            exact hown.out
          clear hown hY
          go_wp2
          go_roundw
          case measure => (simp [intOf]; omega)
          case rel => exact ⟨j + 1, K - 1, by omega, rfl, (by have := hK.out; show _ = _; omega), by omega, by omega, O8, hb⟩
    · obtain rfl : j = L := by omega
      have Kn : K = -1 := by omega
      subst Kn
      obtain ⟨g', cap', hu, hg', hcap, hm, hcell⟩ : ∃ g' cap', u3 = .slice (some ⟨g', 0, none⟩) (8 * j) cap' ∧ g' < wr.heap.size ∧ 8 * j ≤ cap' ∧ cap' ≤ maxLen ∧ ∀ i x, (bitC V (8 * j))[i]? = some x → wr.cell? ⟨g', i, none⟩ = some x := by
        rcases hown.out.2 with ⟨_, h0⟩ | ⟨g', cap', cur, h1, h2, h3, h4, h5, _⟩
        · omega
        · refine ⟨g', cap', h1, (Array.getElem?_eq_some_iff.1 h3).1, h4, h5, fun i x hx => ?_⟩
          have := hown.out.cells (g := g') (by rw [h1]; rfl) i x hx
          have ad : (⟨g', 0, none⟩ : Addr).add i = ⟨g', i, none⟩ := by unfold Addr.add; split <;> simp_all
          rwa [ad] at this
      subst hu
      have BR : BitRow wr g' (8 * j) V := ⟨hg', fun i hi => hcell i _ (by
        rw [List.getElem?_map]
        have := bitsL_getD V (8 * j) i hi
        rw [List.getD_eq_getElem?_getD] at this
        have l : i < (bitsL V (8 * j)).length := by rw [bitsL_length]; exact hi
        rw [List.getElem?_eq_getElem l] at this ⊢
        simp only [Option.getD_some] at this
        rw [Option.map_some, this])⟩
      have NM := hide (num_w g' (8 * j) cap' V (by omega) VL.out hcap hm wr BR)
      have B1 := hide (BW.out.1.trans (hb.out.mono (by omega)))
      have RS : Hid (Blk wr w.heap.size #[.bool false, .int .u64 0, .int .u64 0] 26) := (hb.out.block w.heap.size (by omega)).trans HW0.out
      have h8 : Hid (((j : Int) == 16) = b16) := by
        show _ = _
        rw [h16, Bool.eq_iff_iff]
        simp
        omega
      clear hown hb hcell BR BB VL HB HL HC HW0 BW hK hK' hcap hm hs
      go_wp2_with fail
      refine NM.out.mono ?_
      rintro e w5 ⟨xh, xl, rfl, hn, hb5⟩
      have R5 := RS.out.below hb5
      obtain ⟨r0, r1, r2, r3, r4, r5, r6⟩ := R5.three
      have B5 := B1.out.trans (hb5.mono B1.out.size)
      have h8' := h8.out
      clear NM RS B1 hb5 R5
      go_wp2
      refine bodyPost_ret (v := av b16 xh xl) (by simp [results, Tryd.results33, go_sem, World.cell?_setCell_same', World.cell?_setCell_other, *]) rfl ⟨xh, xl, rfl, hn, by repeat (first | with_reducible exact Below.refl _ _ | with_reducible refine Below.drew ?_ | with_reducible refine Below.alloc ?_ (by first | omega | (simp <;> omega)) _ | with_reducible refine Below.setCell ?_ (by first | omega | (simp <;> omega)) _ | with_reducible refine Below.trans ?_ (Below.mono B5 (by first | omega | (simp <;> omega))))⟩
end Go.Proofs.YtgbpnekinbdadaaDoor
