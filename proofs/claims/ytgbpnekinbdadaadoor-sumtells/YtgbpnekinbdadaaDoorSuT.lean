/-
  The walk of SumTells.
-/
import Derived.Test.YtgbpnekinbdadaaDoorSuB
import Derived.Lib.ConvBytes
namespace Go.Proofs.YtgbpnekinbdadaaDoor
open Go.ChangeShapes Go.WideShapes Go.ChangeAt Go.RowKit
set_option linter.unusedVariables false
set_option linter.unusedSimpArgs false

/-- A text of so many bytes. -/
def textQ (L : Nat) (h : Nat → Nat) : ByteArray := strOfNums ((List.range L).map fun i => (h i : Int))

theorem textQ_size (L : Nat) (h : Nat → Nat) : (textQ L h).size = L := by
  show (textQ L h).data.size = L
  rw [← Array.length_toList]
  unfold textQ
  rw [strOfNums_data]
  simp

theorem textQ_at {L : Nat} {h : Nat → Nat} {i : Nat} (hi : i < L) (hb : h i < 256) : sb8 (textQ L h) i = h i := by
  unfold sb8 textQ
  rw [strOfNums_data, List.map_map, List.getD_eq_getElem?_getD, List.getElem?_map, List.getElem?_range hi]
  simp
  omega

/-- Block d begins with L bytes that may be written. -/
def RowT (W : World) (d L : Nat) (h : Nat → Nat) : Prop := (∀ i, i < L → W.cell? ⟨d, i, none⟩ = some (.int .u8 (h i : Int))) ∧ (∀ i, i < L → W.frozen? ⟨d, i, none⟩ = false) ∧ d < W.heap.size

theorem RowT.new (w : World) (s : ByteArray) : RowT (Lib.bytesWorld w 5 s) w.heap.size s.size (sb8 s) := by
  refine ⟨fun i hi => Lib.bytesWorld_cell w 5 s i hi, fun i hi => ?_, by rw [Lib.bytesWorld_size]; omega⟩
  have hz : s.size ≤ (Lib.bytesCells w 5 s).size := by
    unfold Lib.bytesCells
    rw [Array.size_append, Array.size_map]
    exact Nat.le_add_right _ _
  simp [World.frozen?, Lib.bytesWorld_at_new]
  omega

theorem RowT.put {W : World} {d L : Nat} {h h' : Nat → Nat} (k : RowT W d L h) (i : Nat) (hi : i < L) {y : Int} (hy : y = (h' i : Int)) (ho : ∀ p, p < L → p ≠ i → h p = h' p) : RowT (W.setCell ⟨d, i, none⟩ (.int .u8 y)) d L h' := by
  subst hy
  obtain ⟨k1, k2, k3⟩ := k
  refine ⟨fun p hp => ?_, fun p hp => ?_, by simpa using k3⟩
  · by_cases e : p = i
    · subst e
      exact World.cell?_setCell_same _ _ _ (k1 p hp)
    · rw [World.cell?_setCell_other _ _ _ _ (by intro c; injection c with _ c; exact e c.symm), k1 p hp, ho p hp e]
  · rw [← k2 p hp]
    simp

theorem bytes_below8 (w : World) (e : TypeId) (s : ByteArray) : Below w.heap.size w (Lib.bytesWorld w e s) where
  os := rfl
  tape := rfl
  output := rfl
  size := by rw [Lib.bytesWorld_size]; omega
  block := fun k hk => Lib.bytesWorld_at_old w e s k hk

/-- What a round reads. -/
def RX (d i : Nat) (x : Int) (W : World) : Prop := W.cell? ⟨d, i, none⟩ = some (.int .u8 x)

set_option maxRecDepth 100000 in
set_option maxHeartbeats 3200000 in
theorem sumtells_walk {n : Nat} (hn : n ≤ 4294967295) {z : Int} (hz : -9223372036854775808 ≤ z ∧ z ≤ 9223372036854775807) (s : ByteArray) (hs : s.size ≤ maxLen) (w : World) (hT : RM w) :
    Calls Tryd.prog 7 #[.string s, .int .i64 z, .int .u32 n] w fun e w' => e = .returned (.bool true) ∧ Below w.heap.size w w' := by
  unfold maxLen at hs
  have AW := hide (awake8_c w hT)
  have HT := hide hT
  clear hT
  by_cases hg : 4 ≤ s.size ∧ s.size ≤ 4000 ∧ n ≠ 0
  · obtain ⟨g1, g2, g3⟩ := hg
    have c1 : ¬ (s.size : Int) > 4000 := by omega
    have c2 : ¬ (s.size : Int) < 4 := by omega
    have c3 : ((n : Int) == 0) = false := by simp; omega
    obtain ⟨A, hA1, hA2⟩ : ∃ A : Nat, (IntKind.u64.wrap z).tmod ((s.size : Int) - 3) = (A : Int) ∧ A + 4 ≤ s.size := by
      have p : 0 ≤ IntKind.u64.wrap z := by rw [IntKind.wrap_u64]; omega
      have q1 := Int.emod_nonneg (IntKind.u64.wrap z) (show (s.size : Int) - 3 ≠ 0 by omega)
      have q2 := Int.emod_lt_of_pos (IntKind.u64.wrap z) (show 0 < (s.size : Int) - 3 by omega)
      rw [Int.tmod_eq_emod_of_nonneg p]
      exact ⟨(IntKind.u64.wrap z % ((s.size : Int) - 3)).toNat, by omega, by omega⟩
    have hA3 : (A : Int) + 4 ≤ (s.size : Int) := by omega
    have hA4 : wrap64 (A : Int) = (A : Int) := by first | exact IntKind.wrap_i64 _ ▸ (by omega) | (simp [wrap64]; omega)
    have hcv := Lib.run_convert_string_bytes (P := Tryd.prog) w 9 40 5 s (u := .string) Tryd.underlying9 Tryd.underlying40 Tryd.underlying5
    obtain ⟨L, hL⟩ : ∃ L, s.size = L := ⟨_, rfl⟩
    have R0 : Hid (RowT (Lib.bytesWorld w 5 s) w.heap.size L (fun i => if A ≤ i ∧ i < A + 0 then sb8 s i ^^^ byteW n (i - A) else sb8 s i)) := by
      have := RowT.new w s
      rw [hL] at this
      have e : (fun i => if A ≤ i ∧ i < A + 0 then sb8 s i ^^^ byteW n (i - A) else sb8 s i) = sb8 s := by
        funext i
        rw [if_neg (by omega)]
      show RowT _ _ _ _
      rw [e]
      exact this
    have B0 := hide (bytes_below8 w 5 s)
    obtain ⟨v, hv⟩ : ∃ v, sumF 0 (sb8 s) s.size = v := ⟨_, rfl⟩
    have OS := hide (fun w hT => of_c s (by omega) hv w hT)
    have TE : Hid (∀ u, sumF 0 (fun i => if A ≤ i ∧ i < A + 4 then sb8 s i ^^^ byteW n (i - A) else sb8 s i) L = u → (u : Int) ≠ (v : Int)) := by
      intro u hu c
      have l1 := onI_lt (r := 4294967295 - 0) (f := sb8 s) (by decide) (sb8_lt s) L
      have hb : ∀ i, (fun i => if A ≤ i ∧ i < A + 4 then sb8 s i ^^^ byteW n (i - A) else sb8 s i) i < 256 := fun i => by
        show (if _ then _ else _) < 256
        split
        · exact Nat.xor_lt_two_pow (n := 8) (sb8_lt s i) (Nat.mod_lt _ (by decide))
        · exact sb8_lt s i
      have l2 := onI_lt (r := 4294967295 - 0) (f := fun i => if A ≤ i ∧ i < A + 4 then sb8 s i ^^^ byteW n (i - A) else sb8 s i) (by decide) hb L
      refine onI_tells (r := 4294967295 - 0) (n := n) (at0 := A) (L := L) (f := sb8 s) (g := fun i => if A ≤ i ∧ i < A + 4 then sb8 s i ^^^ byteW n (i - A) else sb8 s i) (by decide) g3 (by omega) (by omega) (fun i _ => ?_) ?_
      · show (if _ then _ else _) = _ ^^^ (if _ then _ else _)
        split
        · rfl
        · rw [Nat.xor_zero]
      · unfold sumF at hu hv
        rw [hL] at hv
        omega
    have OT := hide (fun u (hu : sumF 0 (fun i => if A ≤ i ∧ i < A + 4 then sb8 s i ^^^ byteW n (i - A) else sb8 s i) L = u) w hT => of_c (textQ L (fun i => if A ≤ i ∧ i < A + 4 then sb8 s i ^^^ byteW n (i - A) else sb8 s i)) (by rw [textQ_size]; omega) (v := u) (by
      rw [← hu, textQ_size]
      unfold sumF
      rw [onI_same L (fun i hi => textQ_at hi (by
        show (if _ then _ else _) < 256
        split
        · exact Nat.xor_lt_two_pow (n := 8) (sb8_lt s i) (Nat.mod_lt _ (by decide))
        · exact sb8_lt s i))]) w hT)
    rw [hL] at hA1 hA3 c1 c2 hcv
    clear hv g3 hs
    go_enter Tryd.func7, Tryd.ntmps7
    go_wp2_with fail
    refine AW.out.mono ?_
    rintro e w1 ⟨rfl, rfl⟩
    clear AW
    go_wp2_with fail
    obtain ⟨W1, hW1⟩ : ∃ W1, W1 = Lib.bytesWorld w1 5 s := ⟨_, rfl⟩
    rw [← hW1] at hcv R0 B0 ⊢
    clear hcv hW1
    go_loopw [8] (fun t wr => ∃ k : Nat, k ≤ 4 ∧ t = .int .i64 k ∧ Hid (RowT wr w1.heap.size L (fun i => if A ≤ i ∧ i < A + k then sb8 s i ^^^ byteW n (i - A) else sb8 s i)) ∧ Hid (Below w1.heap.size w1 wr)) (fun t _ => 4 - (intOf t).toNat)
    case atStart => exact ⟨0, by omega, rfl, R0, B0⟩
    case round =>
      clear R0 B0
      obtain ⟨k, hk, rfl, hM, hB⟩ := hrel
      by_cases hlt : k < 4
      · have hki : (k : Int) < 4 := by omega
        have hg := hM.out.1 (A + k) (by omega)
        have hz0 := hM.out.2.1 (A + k) (by omega)
        have dl := hM.out.2.2
        have b1 : byteW n k < 256 := Nat.mod_lt _ (by decide)
        have b2 := sb8_lt s (A + k)
        simp only [] at hg
        rw [if_neg (by omega)] at hg
        have xr := u8_xor_nat (sb8 s (A + k)) (byteW n k) b2 b1
        have NX : Hid (∀ y : Int, y = ((sb8 s (A + k) ^^^ byteW n k : Nat) : Int) → RowT (wr.setCell ⟨w1.heap.size, A + k, none⟩ (.int .u8 y)) w1.heap.size L (fun i => if A ≤ i ∧ i < A + (k + 1) then sb8 s i ^^^ byteW n (i - A) else sb8 s i)) := fun y hy => hM.out.put (A + k) (by omega) (by rw [hy, if_pos (by omega), show A + k - A = k by omega]) (fun p _ hp => by
          by_cases h : A ≤ p ∧ p < A + k
          · rw [if_pos h, if_pos (by omega)]
          · rw [if_neg h, if_neg (by omega)])
        have NB : Hid (∀ v, Below w1.heap.size w1 (wr.setCell ⟨w1.heap.size, A + k, none⟩ v)) := fun v => hB.out.setCell (p := ⟨w1.heap.size, A + k, none⟩) (Nat.le_refl _) v
        have sh : (n : Int) / 2 ^ (8 * (k : Int)).toNat = ((n / 2 ^ (8 * k) : Nat) : Int) := by
          rw [show (8 * (k : Int)).toNat = 8 * k by omega, Int.natCast_ediv, Int.natCast_pow]
          rfl
        have w0 : IntKind.u8.wrap ((n / 2 ^ (8 * k) : Nat) : Int) = (byteW n k : Int) := by
          rw [show (byteW n k : Int) = ((n / 2 ^ (8 * k) % 256 : Nat) : Int) from rfl]
          generalize n / 2 ^ (8 * k) = q
          simp [IntKind.wrap, IntKind.bits, IntKind.signed]
        obtain ⟨q, hq⟩ : ∃ q, n / 2 ^ (8 * k) = q := ⟨_, rfl⟩
        rw [hq] at sh w0
        obtain ⟨bw, hbw⟩ : ∃ bw, byteW n k = bw := ⟨_, rfl⟩
        obtain ⟨sv, hsv⟩ : ∃ sv, sb8 s (A + k) = sv := ⟨_, rfl⟩
        obtain ⟨xv, hxv⟩ : ∃ xv, sv ^^^ bw = xv := ⟨_, rfl⟩
        rw [hbw] at w0 b1 xr NX
        rw [hsv] at hg b2 xr NX
        rw [hxv] at xr NX
        have aw : IntKind.i64.wrap ((A : Int) + (k : Int)) = (A : Int) + (k : Int) := by rw [IntKind.wrap_i64]; omega
        have a2 : IntKind.i64.wrap (8 * (k : Int)) = 8 * (k : Int) := by rw [IntKind.wrap_i64]; omega
        have a3 : ((A : Int) + (k : Int)).toNat = A + k := by omega
        have a4 : 0 ≤ (A : Int) + (k : Int) := by omega
        have a5 : (A : Int) + (k : Int) < (L : Int) := by omega
        have a6 : 0 ≤ 8 * (k : Int) := by omega
        have S0 : RX w1.heap.size (A + k) sv wr := hg
        clear hM hB hq hbw hsv hxv OS OT TE HT
        go_upto_region 10 with fail
        refine wp_region_held_drew (S := fun _ => True) (by kernel_rfl) trivial (fun hHeld => ?_)
        refine wpAnyH_take (i := 0) (oi := _) (v := ?v1) (List.getElem?_toArray.trans rfl) (by kernel_rfl) (by kernel_rfl) (by kernel_rfl) (fun _ _ _ h => h) (Or.inl ⟨by rfl, ?hy1⟩) (by assumption) ?rest1
        case hy1 => (intro wq hSw; go_simp; try with_reducible rfl)
        try simp only [Act.put, List.setIfInBounds_toArray, List.set_cons_zero, List.set_cons_succ]
        refine wpAnyH_take (i := 1) (oi := _) (v := ?v2) (List.getElem?_toArray.trans rfl) (by kernel_rfl) (by kernel_rfl) (by kernel_rfl) (fun _ _ _ h => h) (Or.inl ⟨by rfl, ?hy2⟩) (by assumption) ?rest2
        case hy2 => (intro wq hSw; go_simp; try with_reducible rfl)
        try simp only [Act.put, List.setIfInBounds_toArray, List.set_cons_zero, List.set_cons_succ]
        refine wpAnyH_take (i := 2) (oi := _) (v := ?v3) (List.getElem?_toArray.trans rfl) (by kernel_rfl) (by kernel_rfl) (by kernel_rfl) (fun _ _ _ h => h) (Or.inl ⟨by rfl, ?hy3⟩) (by assumption) ?rest3
        case hy3 => (intro wq hSw; go_simp; try with_reducible rfl)
        try simp only [Act.put, List.setIfInBounds_toArray, List.set_cons_zero, List.set_cons_succ]
        refine wpAnyH_take (i := 3) (oi := _) (v := ?v4) (List.getElem?_toArray.trans rfl) (by kernel_rfl) (by kernel_rfl) (by kernel_rfl) (fun _ _ _ h => h) (Or.inl ⟨by rfl, ?hy4⟩) (by assumption) ?rest4
        case hy4 => (intro wq hSw; go_simp; try with_reducible rfl)
        try simp only [Act.put, List.setIfInBounds_toArray, List.set_cons_zero, List.set_cons_succ]
        refine wpAnyH_take (i := 4) (oi := _) (v := ?v5) (List.getElem?_toArray.trans rfl) (by kernel_rfl) (by kernel_rfl) (by kernel_rfl) (fun _ _ _ h => h) (Or.inl ⟨by rfl, ?hy5⟩) (by assumption) ?rest5
        case hy5 => (intro wq hSw; go_simp; try with_reducible rfl)
        try simp only [Act.put, List.setIfInBounds_toArray, List.set_cons_zero, List.set_cons_succ]
        refine wpAnyH_take (i := 5) (oi := _) (v := ?v6) (List.getElem?_toArray.trans rfl) (by kernel_rfl) (by kernel_rfl) (by kernel_rfl) (fun _ _ _ h => h) (Or.inl ⟨by rfl, ?hy6⟩) (by assumption) ?rest6
        case hy6 => (intro wq hSw; go_simp; try with_reducible rfl)
        try simp only [Act.put, List.setIfInBounds_toArray, List.set_cons_zero, List.set_cons_succ]
        refine wpAnyH_take (i := 6) (oi := _) (v := ?v7) (List.getElem?_toArray.trans rfl) (by kernel_rfl) (by kernel_rfl) (by kernel_rfl) (fun _ _ _ h => h) (Or.inl ⟨by rfl, ?hy7⟩) (by assumption) ?rest7
        case hy7 => (intro wq hSw; go_simp; try with_reducible rfl)
        try simp only [Act.put, List.setIfInBounds_toArray, List.set_cons_zero, List.set_cons_succ]
        refine wpAnyH_take (i := 7) (oi := _) (v := ?v8) (List.getElem?_toArray.trans rfl) (by kernel_rfl) (by kernel_rfl) (by kernel_rfl) (fun _ _ _ h => h) (Or.inl ⟨by rfl, ?hy8⟩) (by assumption) ?rest8
        case hy8 => (intro wq hSw; go_simp; try with_reducible rfl)
        try simp only [Act.put, List.setIfInBounds_toArray, List.set_cons_zero, List.set_cons_succ]
        refine wpAnyH_take (i := 8) (oi := _) (v := ?v9) (List.getElem?_toArray.trans rfl) (by kernel_rfl) (by kernel_rfl) (by kernel_rfl) (fun _ _ _ h => h) (Or.inl ⟨by rfl, ?hy9⟩) (by assumption) ?rest9
        case hy9 => (intro wq hSw; go_simp; try with_reducible rfl)
        try simp only [Act.put, List.setIfInBounds_toArray, List.set_cons_zero, List.set_cons_succ]
        refine wpAnyH_take (i := 10) (oi := _) (v := ?v10) (List.getElem?_toArray.trans rfl) (by kernel_rfl) (by kernel_rfl) (by kernel_rfl) (fun _ _ _ h => h) (Or.inl ⟨by rfl, ?hy10⟩) (by assumption) ?rest10
        case hy10 => (intro wq hSw; go_simp; try with_reducible rfl)
        try simp only [Act.put, List.setIfInBounds_toArray, List.set_cons_zero, List.set_cons_succ]
        refine wpAnyH_take (i := 11) (oi := _) (v := ?v11) (List.getElem?_toArray.trans rfl) (by kernel_rfl) (by kernel_rfl) (by kernel_rfl) (fun _ _ _ h => h) (Or.inl ⟨by rfl, ?hy11⟩) (by assumption) ?rest11
        case hy11 => (intro wq hSw; go_simp; try with_reducible rfl)
        try simp only [Act.put, List.setIfInBounds_toArray, List.set_cons_zero, List.set_cons_succ]
        refine wpAnyH_take (i := 12) (oi := _) (v := ?v12) (List.getElem?_toArray.trans rfl) (by kernel_rfl) (by kernel_rfl) (by kernel_rfl) (fun _ _ _ h => h) (Or.inl ⟨by rfl, ?hy12⟩) (by assumption) ?rest12
        case hy12 => (intro wq hSw; go_simp; try with_reducible rfl)
        try simp only [Act.put, List.setIfInBounds_toArray, List.set_cons_zero, List.set_cons_succ]
        refine wpAnyH_take (i := 13) (oi := _) (v := ?v13) (List.getElem?_toArray.trans rfl) (by kernel_rfl) (by kernel_rfl) (by kernel_rfl) (fun _ _ _ h => h) (Or.inl ⟨by rfl, ?hy13⟩) (by assumption) ?rest13
        case hy13 => (intro wq hSw; go_simp; try with_reducible rfl)
        try simp only [Act.put, List.setIfInBounds_toArray, List.set_cons_zero, List.set_cons_succ]
        refine wpAnyH_take (i := 14) (oi := _) (v := ?v14) (List.getElem?_toArray.trans rfl) (by kernel_rfl) (by kernel_rfl) (by kernel_rfl) (fun _ _ _ h => h) (Or.inl ⟨by rfl, ?hy14⟩) (by assumption) ?rest14
        case hy14 => (intro wq hSw; go_simp; try with_reducible rfl)
        try simp only [Act.put, List.setIfInBounds_toArray, List.set_cons_zero, List.set_cons_succ]
        refine wpAnyH_ready (rs := [9]) (by kernel_rfl) (by simp) ?rdy15
        refine (AllReadyH.cons (List.getElem?_toArray.trans rfl) (fun K hK => ?stp15_9) AllReadyH.nil)
        case stp15_9 =>
          go_simp
          go_wp2_with fail
          refine hK.out _ _ trivial (fun hHeld2 => ?_)
          clear hK K hHeld2
          try simp only [Act.put, List.setIfInBounds_toArray, List.set_cons_zero, List.set_cons_succ]
          refine wpAnyH_ready (rs := [15]) (by kernel_rfl) (by simp) ?rdy16
          refine (AllReadyH.cons (List.getElem?_toArray.trans rfl) (fun K hK => ?stp16_15) AllReadyH.nil)
          case stp16_15 =>
            go_simp
            go_wp2_with fail
            refine hK.out _ _ trivial (fun hHeld2 => ?_)
            clear hK K hHeld2
            try simp only [Act.put, List.setIfInBounds_toArray, List.set_cons_zero, List.set_cons_succ]
            refine wpAnyH_ready (rs := [16]) (by kernel_rfl) (by simp) ?rdy17
            refine (AllReadyH.cons (List.getElem?_toArray.trans rfl) (fun K hK => ?stp17_16) AllReadyH.nil)
            case stp17_16 =>
              go_simp
              go_wp2_with fail
              refine hK.out _ _ trivial (fun hHeld2 => ?_)
              clear hK K hHeld2
              try simp only [Act.put, List.setIfInBounds_toArray, List.set_cons_zero, List.set_cons_succ]
              refine wpAnyH_ready (rs := [17]) (by kernel_rfl) (by simp) ?rdy18
              refine (AllReadyH.cons (List.getElem?_toArray.trans rfl) (fun K hK => ?stp18_17) AllReadyH.nil)
              case stp18_17 =>
                go_simp
                go_wp2_with fail
                refine hK.out _ _ trivial (fun hHeld2 => ?_)
                clear hK K hHeld2
                try simp only [Act.put, List.setIfInBounds_toArray, List.set_cons_zero, List.set_cons_succ]
                refine wpAnyH_done (by kernel_rfl) ?_ _
                go_wp2
                go_roundw
                case rel => exact ⟨k + 1, by omega, by go_num, (by first | exact NX.out _ rfl | exact (NX.out _ rfl : RowT _ _ _ _)), (by first | exact NB.out _ | exact (NB.out _).drew)⟩
                case measure => (simp [intOf]; omega)
      · obtain rfl : k = 4 := by omega
        have cv : (convert 40 9 (.slice (some ⟨w1.heap.size, 0, none⟩) L (grownCap w1 L 0 5))).run Tryd.prog wr = .ok (.string (textQ L (fun i => if A ≤ i ∧ i < A + 4 then sb8 s i ^^^ byteW n (i - A) else sb8 s i))) wr := by
          refine run_convert_bytes_arg (P := Tryd.prog) wr 40 5 Tryd.underlying40 Tryd.underlying5 w1.heap.size 0 L (grownCap w1 L 0 5) ((List.range L).map fun i => (((if A ≤ i ∧ i < A + 4 then sb8 s i ^^^ byteW n (i - A) else sb8 s i : Nat)) : Int)) (by simp) (fun i hi => ?_) 9 Tryd.underlying9
          rw [Nat.zero_add, hM.out.1 i hi]
          simp [hi]
        obtain ⟨u, hu⟩ : ∃ u, sumF 0 (fun i => if A ≤ i ∧ i < A + 4 then sb8 s i ^^^ byteW n (i - A) else sb8 s i) L = u := ⟨_, rfl⟩
        have RMr := HT.out.below hB.out
        have O1 := hide (OT.out u hu wr RMr)
        have O2 := hide (OS.out wr RMr)
        have ne := TE.out u hu
        have BB := hide hB.out
        obtain ⟨T, hTT⟩ : ∃ T, textQ L (fun i => if A ≤ i ∧ i < A + 4 then sb8 s i ^^^ byteW n (i - A) else sb8 s i) = T := ⟨_, rfl⟩
        rw [hTT] at cv O1
        clear hM hB hu RMr OS OT TE HT hTT
        go_wp2_with fail
        refine O1.out.mono ?_
        rintro e w2 ⟨rfl, rfl⟩
        go_wp2_with fail
        refine O2.out.mono ?_
        rintro e w3 ⟨rfl, rfl⟩
        go_wp2
        go_ret
        exact ⟨by first | rfl | simp [ne] | (simp; omega), BB.out⟩
  · have hor : s.size > 4000 ∨ (¬ s.size > 4000 ∧ s.size < 4) ∨ (¬ s.size > 4000 ∧ ¬ s.size < 4 ∧ n = 0) := by omega
    rcases hor with h | ⟨h1, h2⟩ | ⟨h1, h2, h3⟩
    · have c1 : (s.size : Int) > 4000 := by omega
      clear hg h
      go_enter Tryd.func7, Tryd.ntmps7
      go_wp2_with fail
      refine AW.out.mono ?_
      rintro e w1 ⟨rfl, rfl⟩
      go_wp2
      go_ret
      exact ⟨by first | rfl | simp, Below.refl _ _⟩
    · have c1 : ¬ (s.size : Int) > 4000 := by omega
      have c2 : (s.size : Int) < 4 := by omega
      clear hg h1 h2
      go_enter Tryd.func7, Tryd.ntmps7
      go_wp2_with fail
      refine AW.out.mono ?_
      rintro e w1 ⟨rfl, rfl⟩
      go_wp2
      go_ret
      exact ⟨by first | rfl | simp, Below.refl _ _⟩
    · subst h3
      have c1 : ¬ (s.size : Int) > 4000 := by omega
      have c2 : ¬ (s.size : Int) < 4 := by omega
      clear hg h1 h2
      go_enter Tryd.func7, Tryd.ntmps7
      go_wp2_with fail
      refine AW.out.mono ?_
      rintro e w1 ⟨rfl, rfl⟩
      go_wp2
      go_ret
      exact ⟨by first | rfl | simp, Below.refl _ _⟩

theorem sumtells_c {y z : Int} (hy : 0 ≤ y ∧ y ≤ 4294967295) (hz : -9223372036854775808 ≤ z ∧ z ≤ 9223372036854775807) (s : ByteArray) (hs : s.size ≤ maxLen) (w : World) (hT : RM w) :
    Calls Tryd.prog 7 #[.string s, .int .i64 z, .int .u32 y] w fun e w' => e = .returned (.bool true) ∧ Below w.heap.size w w' := by
  obtain ⟨n, rfl⟩ := Int.eq_ofNat_of_zero_le hy.1
  exact sumtells_walk (by omega) hz s hs w hT
end Go.Proofs.YtgbpnekinbdadaaDoor
