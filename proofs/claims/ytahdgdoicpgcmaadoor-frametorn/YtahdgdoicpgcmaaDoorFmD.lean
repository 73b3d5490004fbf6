/-
  The reference of package frame: Of, Same, Scan.
-/
import Derived.Test.YtahdgdoicpgcmaaDoorFmC
namespace Go.Proofs.YtahdgdoicpgcmaaDoor
open Go.ChangeShapes Go.WideShapes Go.ChangeAt Go.RowKit
set_option linter.unusedVariables false
set_option linter.unusedSimpArgs false

set_option maxHeartbeats 800000 in
theorem rof_c (s : ByteArray) (hs : s.size ≤ 100000) {T : ByteArray} (hTT : frB s = T) (w : World) :
    Calls Tryd.prog 10 #[.string s] w fun e w' => e = .returned (.string T) ∧ Below w.heap.size w w' := by
  have C1 := hide (rlay_c (n := s.size) (by omega) w)
  have z1 := layS_size s.size
  have z2 := layS_size (gs (lay4 s.size ++ s.data.toList))
  have az : (layS s.size ++ s).size = 4 + s.size := by rw [ByteArray.size_append, layS_size]
  have C2 := hide (fun w => ron_c (n := 0) (by decide) (layS s.size ++ s) (by omega) (v := gs (lay4 s.size ++ s.data.toList)) (by rw [gs_of, app_list, layS_list]) w)
  have C3 := hide (fun w => rlay_c (gs_le (lay4 s.size ++ s.data.toList)) w)
  have HF := hide hTT
  unfold frB at HF
  obtain ⟨X, hX⟩ : ∃ X, layS s.size = X := ⟨_, rfl⟩
  obtain ⟨v, hv⟩ : ∃ v, gs (lay4 s.size ++ s.data.toList) = v := ⟨_, rfl⟩
  rw [hX] at C1 C2 HF z1 az
  rw [hv] at C2 C3 HF z2
  obtain ⟨Y, hY⟩ : ∃ Y, layS v = Y := ⟨_, rfl⟩
  rw [hY] at C3 HF z2
  clear hX hv hY hTT
  go_enter Tryd.func10, Tryd.ntmps10
  go_wp2_with fail
  refine C1.out.mono ?_
  rintro e w1 ⟨rfl, hb1⟩
  have HB := hide hb1
  clear hb1 C1
  go_wp2_with fail
  refine (C2.out _).mono ?_
  rintro e w2 ⟨rfl, rfl⟩
  clear C2
  go_wp2_with fail
  refine (C3.out _).mono ?_
  rintro e w3 ⟨rfl, hb3⟩
  have B := hide (HB.out.trans (hb3.mono HB.out.size))
  clear hb3 HB C3
  go_wp2
  go_ret
  exact ⟨by rw [← HF.out]; rfl, B.out⟩

set_option maxHeartbeats 1600000 in
theorem same_c {L : List ByteArray} {v v' : Value} (w : World) (h : StrsAt w v L) (h' : StrsAt w v' L) :
    Calls Tryd.prog 14 #[v, v'] w fun e w' => e = .returned (.bool true) ∧ Below w.heap.size w w' := by
  obtain ⟨x, cap, b, o, rfl, e1, hm, hc⟩ := h
  obtain ⟨x', cap', b', o', rfl, e1', _, hc'⟩ := h'
  have H1 := hide e1
  have H2 := hide e1'
  have HC := hide hc
  have HD := hide hc'
  obtain ⟨n, hn⟩ : ∃ n, L.length = n := ⟨_, rfl⟩
  rw [hn] at H1 H2 HC HD hm
  rw [hn]
  unfold maxLen at hm
  clear e1 e1' hc hc' hn
  go_enter Tryd.func14, Tryd.ntmps14
  go_wp2_with fail
  go_loopw [5] (fun i wr => ∃ k : Nat, k ≤ n ∧ i = .int .i64 k ∧ Hid (Below w.heap.size w wr)) (fun i _ => n - (intOf i).toNat)
  case atStart => exact ⟨0, Nat.zero_le _, rfl, Below.refl _ _⟩
  case round =>
    obtain ⟨k, hk, rfl, hB⟩ := hrel
    by_cases hlt : k < n
    · have hki : (k : Int) < (n : Int) := by omega
      have c1 := HC.out k hlt
      have c2 := HD.out k hlt
      have d1 := (hB.out.cell (p := ⟨b, o + k, none⟩) (cell_ltF c1)).trans c1
      have d2 := (hB.out.cell (p := ⟨b', o' + k, none⟩) (cell_ltF c2)).trans c2
      obtain ⟨t, ht⟩ : ∃ t, L.getD k ⟨#[]⟩ = t := ⟨_, rfl⟩
      rw [ht] at d1 d2
      obtain rfl : x = some ⟨b, o, none⟩ := by rcases H1.out with h | h; exact h; omega
      obtain rfl : x' = some ⟨b', o', none⟩ := by rcases H2.out with h | h; exact h; omega
      clear c1 c2 ht HC HD H1 H2
      go_upto_region 6 with fail
      go_quiet (fail)
      have BQ := hide (below_drewN8 hB.out nq)
      obtain ⟨wq, hwq⟩ : ∃ wq, wr.drewN nq = wq := ⟨_, rfl⟩
      rw [hwq] at BQ ⊢
      clear hwq d1 d2 hB
      go_wp2
      go_roundw
      case measure => simp [intOf]; omega
      case rel => exact ⟨k + 1, by omega, by go_num, BQ⟩
    · obtain rfl : k = n := by omega
      have hki : ¬ (k : Int) < (k : Int) := by omega
      clear HC HD H1 H2
      go_wp2
      go_ret
      exact ⟨by first | rfl | simp, hB.out⟩

/-- Nothing is held. -/
def TTrueF (_ : World) : Prop := True

/-- A length that says too much begins no frame. -/
theorem hd_bad {l : List UInt8} (h : 65536 < rd4 l ∨ l.length < 8 + rd4 l) : hdF gs l = none := by
  unfold hdF
  by_cases c : l.length < 8
  · rw [if_pos c]
  · rw [if_neg c, if_pos h]

theorem rd_at (s : ByteArray) (k : Nat) : rd4 (s.data.toList.drop k) = sb8 s k + 256 * sb8 s (k + 1) + 65536 * sb8 s (k + 2) + 16777216 * sb8 s (k + 3) := by
  unfold rd4 by4 sb8
  simp only [List.getD_eq_getElem?_getD, List.getElem?_drop, Nat.add_zero]

theorem wr64 {z : Int} (h : -9223372036854775808 ≤ z ∧ z ≤ 9223372036854775807) : IntKind.i64.wrap z = z := by
  simp [IntKind.wrap, IntKind.bits, IntKind.signed]
  omega

set_option maxRecDepth 100000 in
set_option maxHeartbeats 3200000 in
theorem rscan_c (s : ByteArray) (hs : s.size ≤ 5000) {L : List ByteArray} {N : Nat} (h : scF gs s.data.toList = (datL L, N)) (w : World) :
    Calls Tryd.prog 12 #[.string s] w fun e w' => ∃ v, e = .returned (.tuple #[v, .int .i64 N]) ∧ StrsAt w' v L ∧ Below w.heap.size w w' := by
  obtain ⟨i0, hi, hz0, hz1, hz2⟩ := info_parts infoStr
  have H0 := hide h
  clear h
  go_enter Tryd.func12, Tryd.ntmps12
  go_wp2_with fail
  go_loopw [4, 5] (fun u i wr => ∃ (k : Nat) (A Z : List ByteArray), i = .int .i64 k ∧ k ≤ s.size ∧ A.length * 8 ≤ k ∧ Hid (L = A ++ Z ∧ k ≤ N ∧ scF gs (s.data.toList.drop k) = (datL Z, N - k)) ∧ Hid (wr.ownsRow w.heap.size 9 1 u A.length (A.map fun s => .string s)) ∧ Hid (Below w.heap.size w wr)) (fun _ i _ => s.size - (intOf i).toNat)
  case atStart =>
    refine ⟨0, [], L, rfl, Nat.zero_le _, Nat.zero_le _, ⟨rfl, Nat.zero_le _, H0.out⟩, ?_, (Below.refl _ _).alloc (Nat.le_refl _) _⟩
    exact ⟨rfl, Or.inr ⟨w.heap.size, 0, #[], rfl, Nat.le_refl _, heap_alloc_new w _, Nat.le_refl _, by unfold maxLen; omega, rfl, rfl⟩⟩
  case round =>
    obtain ⟨k, A, Z, rfl, hk, hA, hP, hO, hB⟩ := hrel
    obtain ⟨p1, p2, p3⟩ := hP.out
    by_cases h8 : k + 8 ≤ s.size
    · have hki : (k : Int) + 8 ≤ (s.size : Int) := by omega
      have k0 : k < s.size := by omega
      have k1 : k + 1 < s.size := by omega
      have k2 : k + 2 < s.size := by omega
      have k3 : k + 3 < s.size := by omega
      have i0' : (k : Int) < (s.size : Int) := by omega
      have i1' : (k : Int) + 1 < (s.size : Int) := by omega
      have i2' : (k : Int) + 2 < (s.size : Int) := by omega
      have i3' : (k : Int) + 3 < (s.size : Int) := by omega
      have b0 := sb8_get s k k0
      have b1 := sb8_get s (k + 1) k1
      have b2 := sb8_get s (k + 2) k2
      have b3 := sb8_get s (k + 3) k3
      have t0 := sb8_lt s k
      have t1 := sb8_lt s (k + 1)
      have t2 := sb8_lt s (k + 2)
      have t3 := sb8_lt s (k + 3)
      obtain ⟨x0, e0⟩ : ∃ x, sb8 s k = x := ⟨_, rfl⟩
      obtain ⟨x1, e1⟩ : ∃ x, sb8 s (k + 1) = x := ⟨_, rfl⟩
      obtain ⟨x2, e2⟩ : ∃ x, sb8 s (k + 2) = x := ⟨_, rfl⟩
      obtain ⟨x3, e3⟩ : ∃ x, sb8 s (k + 3) = x := ⟨_, rfl⟩
      rw [e0] at b0 t0
      rw [e1] at b1 t1
      rw [e2] at b2 t2
      rw [e3] at b3 t3
      obtain ⟨n, hn⟩ : ∃ n, x0 + 256 * x1 + 65536 * x2 + 16777216 * x3 = n := ⟨_, rfl⟩
      have hrd : rd4 (s.data.toList.drop k) = n := by rw [rd_at, e0, e1, e2, e3, hn]
      clear e0 e1 e2 e3
      have v1 : IntKind.i64.wrap ((k : Int) + 1) = (k : Int) + 1 := wr64 (by omega)
      have v2 : IntKind.i64.wrap ((k : Int) + 2) = (k : Int) + 2 := wr64 (by omega)
      have v3 : IntKind.i64.wrap ((k : Int) + 3) = (k : Int) + 3 := wr64 (by omega)
      have y0 : IntKind.i64.wrap (x0 : Int) = (x0 : Int) := wr64 (by omega)
      have y1 : IntKind.i64.wrap (x1 : Int) = (x1 : Int) := wr64 (by omega)
      have y2 : IntKind.i64.wrap (x2 : Int) = (x2 : Int) := wr64 (by omega)
      have y3 : IntKind.i64.wrap (x3 : Int) = (x3 : Int) := wr64 (by omega)
      have m1 : IntKind.i64.wrap (256 * (x1 : Int)) = 256 * (x1 : Int) := wr64 (by omega)
      have m2 : IntKind.i64.wrap (65536 * (x2 : Int)) = 65536 * (x2 : Int) := wr64 (by omega)
      have m3 : IntKind.i64.wrap (16777216 * (x3 : Int)) = 16777216 * (x3 : Int) := wr64 (by omega)
      have a1 : IntKind.i64.wrap ((x0 : Int) + 256 * (x1 : Int)) = (x0 : Int) + 256 * (x1 : Int) := wr64 (by omega)
      have a2 : IntKind.i64.wrap ((x0 : Int) + 256 * (x1 : Int) + 65536 * (x2 : Int)) = (x0 : Int) + 256 * (x1 : Int) + 65536 * (x2 : Int) := wr64 (by omega)
      have a3 : IntKind.i64.wrap ((x0 : Int) + 256 * (x1 : Int) + 65536 * (x2 : Int) + 16777216 * (x3 : Int)) = (n : Int) := (wr64 (by omega)).trans (by omega)
      have n1 : (0 : Int) ≤ (k : Int) + 1 := by omega
      have q1 : ((k : Int) + 1).toNat = k + 1 := by omega
      have n2 : (0 : Int) ≤ (k : Int) + 2 := by omega
      have q2 : ((k : Int) + 2).toNat = k + 2 := by omega
      have n3 : (0 : Int) ≤ (k : Int) + 3 := by omega
      have q3 : ((k : Int) + 3).toNat = k + 3 := by omega
      go_upto_region 4 with fail
      go_quiet (fail)
      have BQ := hide (below_drewN8 (Below.refl wr.heap.size wr) nq)
      obtain ⟨wq, hwq⟩ : ∃ wq, wr.drewN nq = wq := ⟨_, rfl⟩
      rw [hwq] at BQ ⊢
      clear hwq v1 v2 v3 y0 y1 y2 y3 m1 m2 m3 a1 a2 a3 n1 n2 n3 q1 q2 q3 b0 b1 b2 b3 t0 t1 t2 t3 i0' i1' i2' i3' k0 k1 k2 k3
      have B1 := hide (hB.out.trans (BQ.out.mono hB.out.size))
      have O1 := hide (own_belowF hO.out BQ.out)
      clear hB hO BQ
      have ld : (s.data.toList.drop k).length = s.size - k := by rw [List.length_drop, len_of]
      by_cases hbig : 65536 < n
      · obtain ⟨rfl, z2⟩ := sc_end p3 (hd_bad (Or.inl (by omega)))
        obtain rfl : k = N := by omega
        rw [List.append_nil] at p1
        subst p1
        have SA := hide (StrsAt.own O1.out)
        have d1 : (65536 : Int) < (n : Int) := by omega
        clear p2 p3 hP O1 z2 H0 hi hz0 hz1 hz2 ld hn hbig
        go_upto_region 5 with fail
        refine wp_region_held_drew (S := TTrueF) (by kernel_rfl) ?hS100 (fun hHeld => ?rest100)
        case hS100 => (exact trivial)
        refine wpAnyH_take (i := 0) (oi := _) (v := ?v101) (List.getElem?_toArray.trans rfl) (by kernel_rfl) (by kernel_rfl) (by kernel_rfl) (fun _ _ _ h => h) (Or.inl ⟨by rfl, ?hy101⟩) (by assumption) ?rest101
        case hy101 => (intro wq hSw; (try simp only [Two] at hSw); go_simp; try with_reducible rfl)
        try simp only [Act.put, List.setIfInBounds_toArray, List.set_cons_zero, List.set_cons_succ]
        refine wpAnyH_take (i := 1) (oi := _) (v := (.bool true)) (List.getElem?_toArray.trans rfl) (by kernel_rfl) (by kernel_rfl) (by kernel_rfl) (fun _ _ _ h => h) (Or.inl ⟨by rfl, ?hy102⟩) (by assumption) ?rest102
        case hy102 => (intro wq hSw; (try simp only [Two] at hSw); go_simp; (all_goals (first | rfl | omega | simp [*])))
        try simp only [Act.put, List.setIfInBounds_toArray, List.set_cons_zero, List.set_cons_succ]
        refine wpAnyH_take (i := 2) (oi := _) (v := ?v103) (List.getElem?_toArray.trans rfl) (by kernel_rfl) (by kernel_rfl) (by kernel_rfl) (fun _ _ _ h => h) (Or.inl ⟨by rfl, ?hy103⟩) (by assumption) ?rest103
        case hy103 => (intro wq hSw; (try simp only [Two] at hSw); go_simp; try with_reducible rfl)
        try simp only [Act.put, List.setIfInBounds_toArray, List.set_cons_zero, List.set_cons_succ]
        refine wpAnyH_take (i := 3) (oi := _) (v := undef) (List.getElem?_toArray.trans rfl) (by kernel_rfl) (by kernel_rfl) (by kernel_rfl) (fun _ _ _ h => h) (Or.inr ⟨by rfl, rfl⟩) (by assumption) ?rest104
        try simp only [Act.put, List.setIfInBounds_toArray, List.set_cons_zero, List.set_cons_succ]
        refine wpAnyH_take (i := 4) (oi := _) (v := undef) (List.getElem?_toArray.trans rfl) (by kernel_rfl) (by kernel_rfl) (by kernel_rfl) (fun _ _ _ h => h) (Or.inr ⟨by rfl, rfl⟩) (by assumption) ?rest105
        try simp only [Act.put, List.setIfInBounds_toArray, List.set_cons_zero, List.set_cons_succ]
        refine wpAnyH_take (i := 5) (oi := _) (v := undef) (List.getElem?_toArray.trans rfl) (by kernel_rfl) (by kernel_rfl) (by kernel_rfl) (fun _ _ _ h => h) (Or.inr ⟨by rfl, rfl⟩) (by assumption) ?rest106
        try simp only [Act.put, List.setIfInBounds_toArray, List.set_cons_zero, List.set_cons_succ]
        refine wpAnyH_take (i := 6) (oi := _) (v := undef) (List.getElem?_toArray.trans rfl) (by kernel_rfl) (by kernel_rfl) (by kernel_rfl) (fun _ _ _ h => h) (Or.inr ⟨by rfl, rfl⟩) (by assumption) ?rest107
        try simp only [Act.put, List.setIfInBounds_toArray, List.set_cons_zero, List.set_cons_succ]
        refine wpAnyH_take (i := 7) (oi := _) (v := undef) (List.getElem?_toArray.trans rfl) (by kernel_rfl) (by kernel_rfl) (by kernel_rfl) (fun _ _ _ h => h) (Or.inr ⟨by rfl, rfl⟩) (by assumption) ?rest108
        try simp only [Act.put, List.setIfInBounds_toArray, List.set_cons_zero, List.set_cons_succ]
        refine wpAnyH_take (i := 8) (oi := _) (v := undef) (List.getElem?_toArray.trans rfl) (by kernel_rfl) (by kernel_rfl) (by kernel_rfl) (fun _ _ _ h => h) (Or.inr ⟨by rfl, rfl⟩) (by assumption) ?rest109
        try simp only [Act.put, List.setIfInBounds_toArray, List.set_cons_zero, List.set_cons_succ]
        refine wpAnyH_take (i := 9) (oi := _) (v := undef) (List.getElem?_toArray.trans rfl) (by kernel_rfl) (by kernel_rfl) (by kernel_rfl) (fun _ _ _ h => h) (Or.inr ⟨by rfl, rfl⟩) (by assumption) ?rest110
        try simp only [Act.put, List.setIfInBounds_toArray, List.set_cons_zero, List.set_cons_succ]
        refine wpAnyH_take (i := 10) (oi := _) (v := ?v111) (List.getElem?_toArray.trans rfl) (by kernel_rfl) (by kernel_rfl) (by kernel_rfl) (fun _ _ _ h => h) (Or.inl ⟨by rfl, ?hy111⟩) (by assumption) ?rest111
        case hy111 => (intro wq hSw; (try simp only [Two] at hSw); go_simp; try with_reducible rfl)
        try simp only [Act.put, List.setIfInBounds_toArray, List.set_cons_zero, List.set_cons_succ]
        refine wpAnyH_take (i := 11) (oi := _) (v := ?v112) (List.getElem?_toArray.trans rfl) (by kernel_rfl) (by kernel_rfl) (by kernel_rfl) (fun _ _ _ h => h) (Or.inl ⟨by rfl, ?hy112⟩) (by assumption) ?rest112
        case hy112 => (intro wq hSw; (try simp only [Two] at hSw); go_simp; try with_reducible rfl)
        try simp only [Act.put, List.setIfInBounds_toArray, List.set_cons_zero, List.set_cons_succ]
        refine wpAnyH_take (i := 12) (oi := _) (v := undef) (List.getElem?_toArray.trans rfl) (by kernel_rfl) (by kernel_rfl) (by kernel_rfl) (fun _ _ _ h => h) (Or.inr ⟨by rfl, rfl⟩) (by assumption) ?rest113
        try simp only [Act.put, List.setIfInBounds_toArray, List.set_cons_zero, List.set_cons_succ]
        refine wpAnyH_take (i := 13) (oi := _) (v := undef) (List.getElem?_toArray.trans rfl) (by kernel_rfl) (by kernel_rfl) (by kernel_rfl) (fun _ _ _ h => h) (Or.inr ⟨by rfl, rfl⟩) (by assumption) ?rest114
        try simp only [Act.put, List.setIfInBounds_toArray, List.set_cons_zero, List.set_cons_succ]
        refine wpAnyH_take (i := 14) (oi := _) (v := undef) (List.getElem?_toArray.trans rfl) (by kernel_rfl) (by kernel_rfl) (by kernel_rfl) (fun _ _ _ h => h) (Or.inr ⟨by rfl, rfl⟩) (by assumption) ?rest115
        try simp only [Act.put, List.setIfInBounds_toArray, List.set_cons_zero, List.set_cons_succ]
        refine wpAnyH_take (i := 15) (oi := _) (v := undef) (List.getElem?_toArray.trans rfl) (by kernel_rfl) (by kernel_rfl) (by kernel_rfl) (fun _ _ _ h => h) (Or.inr ⟨by rfl, rfl⟩) (by assumption) ?rest116
        try simp only [Act.put, List.setIfInBounds_toArray, List.set_cons_zero, List.set_cons_succ]
        refine wpAnyH_take (i := 16) (oi := _) (v := undef) (List.getElem?_toArray.trans rfl) (by kernel_rfl) (by kernel_rfl) (by kernel_rfl) (fun _ _ _ h => h) (Or.inr ⟨by rfl, rfl⟩) (by assumption) ?rest117
        try simp only [Act.put, List.setIfInBounds_toArray, List.set_cons_zero, List.set_cons_succ]
        refine wpAnyH_take (i := 17) (oi := _) (v := undef) (List.getElem?_toArray.trans rfl) (by kernel_rfl) (by kernel_rfl) (by kernel_rfl) (fun _ _ _ h => h) (Or.inr ⟨by rfl, rfl⟩) (by assumption) ?rest118
        try simp only [Act.put, List.setIfInBounds_toArray, List.set_cons_zero, List.set_cons_succ]
        refine wpAnyH_take (i := 18) (oi := _) (v := undef) (List.getElem?_toArray.trans rfl) (by kernel_rfl) (by kernel_rfl) (by kernel_rfl) (fun _ _ _ h => h) (Or.inr ⟨by rfl, rfl⟩) (by assumption) ?rest119
        try simp only [Act.put, List.setIfInBounds_toArray, List.set_cons_zero, List.set_cons_succ]
        refine wpAnyH_take (i := 19) (oi := _) (v := undef) (List.getElem?_toArray.trans rfl) (by kernel_rfl) (by kernel_rfl) (by kernel_rfl) (fun _ _ _ h => h) (Or.inr ⟨by rfl, rfl⟩) (by assumption) ?rest120
        try simp only [Act.put, List.setIfInBounds_toArray, List.set_cons_zero, List.set_cons_succ]
        refine wpAnyH_take (i := 20) (oi := _) (v := undef) (List.getElem?_toArray.trans rfl) (by kernel_rfl) (by kernel_rfl) (by kernel_rfl) (fun _ _ _ h => h) (Or.inr ⟨by rfl, rfl⟩) (by assumption) ?rest121
        try simp only [Act.put, List.setIfInBounds_toArray, List.set_cons_zero, List.set_cons_succ]
        refine wpAnyH_take (i := 21) (oi := _) (v := undef) (List.getElem?_toArray.trans rfl) (by kernel_rfl) (by kernel_rfl) (by kernel_rfl) (fun _ _ _ h => h) (Or.inr ⟨by rfl, rfl⟩) (by assumption) ?rest122
        try simp only [Act.put, List.setIfInBounds_toArray, List.set_cons_zero, List.set_cons_succ]
        refine wpAnyH_take (i := 22) (oi := _) (v := undef) (List.getElem?_toArray.trans rfl) (by kernel_rfl) (by kernel_rfl) (by kernel_rfl) (fun _ _ _ h => h) (Or.inr ⟨by rfl, rfl⟩) (by assumption) ?rest123
        try simp only [Act.put, List.setIfInBounds_toArray, List.set_cons_zero, List.set_cons_succ]
        refine wpAnyH_take (i := 23) (oi := _) (v := undef) (List.getElem?_toArray.trans rfl) (by kernel_rfl) (by kernel_rfl) (by kernel_rfl) (fun _ _ _ h => h) (Or.inr ⟨by rfl, rfl⟩) (by assumption) ?rest124
        try simp only [Act.put, List.setIfInBounds_toArray, List.set_cons_zero, List.set_cons_succ]
        refine wpAnyH_take (i := 24) (oi := _) (v := undef) (List.getElem?_toArray.trans rfl) (by kernel_rfl) (by kernel_rfl) (by kernel_rfl) (fun _ _ _ h => h) (Or.inr ⟨by rfl, rfl⟩) (by assumption) ?rest125
        try simp only [Act.put, List.setIfInBounds_toArray, List.set_cons_zero, List.set_cons_succ]
        refine wpAnyH_take (i := 25) (oi := _) (v := undef) (List.getElem?_toArray.trans rfl) (by kernel_rfl) (by kernel_rfl) (by kernel_rfl) (fun _ _ _ h => h) (Or.inr ⟨by rfl, rfl⟩) (by assumption) ?rest126
        try simp only [Act.put, List.setIfInBounds_toArray, List.set_cons_zero, List.set_cons_succ]
        refine wpAnyH_take (i := 26) (oi := _) (v := undef) (List.getElem?_toArray.trans rfl) (by kernel_rfl) (by kernel_rfl) (by kernel_rfl) (fun _ _ _ h => h) (Or.inr ⟨by rfl, rfl⟩) (by assumption) ?rest127
        try simp only [Act.put, List.setIfInBounds_toArray, List.set_cons_zero, List.set_cons_succ]
        refine wpAnyH_take (i := 27) (oi := _) (v := undef) (List.getElem?_toArray.trans rfl) (by kernel_rfl) (by kernel_rfl) (by kernel_rfl) (fun _ _ _ h => h) (Or.inr ⟨by rfl, rfl⟩) (by assumption) ?rest128
        try simp only [Act.put, List.setIfInBounds_toArray, List.set_cons_zero, List.set_cons_succ]
        refine wpAnyH_take (i := 28) (oi := _) (v := undef) (List.getElem?_toArray.trans rfl) (by kernel_rfl) (by kernel_rfl) (by kernel_rfl) (fun _ _ _ h => h) (Or.inr ⟨by rfl, rfl⟩) (by assumption) ?rest129
        try simp only [Act.put, List.setIfInBounds_toArray, List.set_cons_zero, List.set_cons_succ]
        refine wpAnyH_take (i := 29) (oi := _) (v := ?v130) (List.getElem?_toArray.trans rfl) (by kernel_rfl) (by kernel_rfl) (by kernel_rfl) (fun _ _ _ h => h) (Or.inl ⟨by rfl, ?hy130⟩) (by assumption) ?rest130
        case hy130 => (intro wq hSw; (try simp only [Two] at hSw); go_simp; try with_reducible rfl)
        try simp only [Act.put, List.setIfInBounds_toArray, List.set_cons_zero, List.set_cons_succ]
        refine wpAnyH_done (by kernel_rfl) ?fin100 _
        go_wp2
        go_ret2
        exact ⟨_, by first | rfl | simp, SA.out.below (Below.refl _ _).drew, B1.out.drew⟩
      have d1 : ¬ (65536 : Int) < (n : Int) := by omega
      have v8 : IntKind.i64.wrap ((k : Int) + 8) = (k : Int) + 8 := wr64 (by omega)
      have v9 : IntKind.i64.wrap ((k : Int) + 8 + (n : Int)) = (k : Int) + 8 + (n : Int) := wr64 (by omega)
      by_cases hlong : s.size < k + 8 + n
      · obtain ⟨rfl, z2⟩ := sc_end p3 (hd_bad (Or.inr (by omega)))
        obtain rfl : k = N := by omega
        rw [List.append_nil] at p1
        subst p1
        have SA := hide (StrsAt.own O1.out)
        have d2 : (s.size : Int) < (k : Int) + 8 + (n : Int) := by omega
        clear p2 p3 hP O1 z2 H0 hi hz0 hz1 hz2 ld hn hbig hlong hrd
        go_upto_region 5 with fail
        refine wp_region_held_drew (S := TTrueF) (by kernel_rfl) ?hS200 (fun hHeld => ?rest200)
        case hS200 => (exact trivial)
        refine wpAnyH_take (i := 0) (oi := _) (v := ?v201) (List.getElem?_toArray.trans rfl) (by kernel_rfl) (by kernel_rfl) (by kernel_rfl) (fun _ _ _ h => h) (Or.inl ⟨by rfl, ?hy201⟩) (by assumption) ?rest201
        case hy201 => (intro wq hSw; (try simp only [Two] at hSw); go_simp; try with_reducible rfl)
        try simp only [Act.put, List.setIfInBounds_toArray, List.set_cons_zero, List.set_cons_succ]
        refine wpAnyH_take (i := 1) (oi := _) (v := (.bool false)) (List.getElem?_toArray.trans rfl) (by kernel_rfl) (by kernel_rfl) (by kernel_rfl) (fun _ _ _ h => h) (Or.inl ⟨by rfl, ?hy202⟩) (by assumption) ?rest202
        case hy202 => (intro wq hSw; (try simp only [Two] at hSw); go_simp; (all_goals (first | rfl | omega | simp [*])))
        try simp only [Act.put, List.setIfInBounds_toArray, List.set_cons_zero, List.set_cons_succ]
        refine wpAnyH_take (i := 2) (oi := _) (v := ?v203) (List.getElem?_toArray.trans rfl) (by kernel_rfl) (by kernel_rfl) (by kernel_rfl) (fun _ _ _ h => h) (Or.inl ⟨by rfl, ?hy203⟩) (by assumption) ?rest203
        case hy203 => (intro wq hSw; (try simp only [Two] at hSw); go_simp; try with_reducible rfl)
        try simp only [Act.put, List.setIfInBounds_toArray, List.set_cons_zero, List.set_cons_succ]
        refine wpAnyH_take (i := 3) (oi := _) (v := ?v204) (List.getElem?_toArray.trans rfl) (by kernel_rfl) (by kernel_rfl) (by kernel_rfl) (fun _ _ _ h => h) (Or.inl ⟨by rfl, ?hy204⟩) (by assumption) ?rest204
        case hy204 => (intro wq hSw; (try simp only [Two] at hSw); go_simp; try with_reducible rfl)
        try simp only [Act.put, List.setIfInBounds_toArray, List.set_cons_zero, List.set_cons_succ]
        refine wpAnyH_take (i := 4) (oi := _) (v := ?v205) (List.getElem?_toArray.trans rfl) (by kernel_rfl) (by kernel_rfl) (by kernel_rfl) (fun _ _ _ h => h) (Or.inl ⟨by rfl, ?hy205⟩) (by assumption) ?rest205
        case hy205 => (intro wq hSw; (try simp only [Two] at hSw); go_simp; try with_reducible rfl)
        try simp only [Act.put, List.setIfInBounds_toArray, List.set_cons_zero, List.set_cons_succ]
        refine wpAnyH_take (i := 5) (oi := _) (v := ?v206) (List.getElem?_toArray.trans rfl) (by kernel_rfl) (by kernel_rfl) (by kernel_rfl) (fun _ _ _ h => h) (Or.inl ⟨by rfl, ?hy206⟩) (by assumption) ?rest206
        case hy206 => (intro wq hSw; (try simp only [Two] at hSw); go_simp; try with_reducible rfl)
        try simp only [Act.put, List.setIfInBounds_toArray, List.set_cons_zero, List.set_cons_succ]
        refine wpAnyH_take (i := 6) (oi := _) (v := ?v207) (List.getElem?_toArray.trans rfl) (by kernel_rfl) (by kernel_rfl) (by kernel_rfl) (fun _ _ _ h => h) (Or.inl ⟨by rfl, ?hy207⟩) (by assumption) ?rest207
        case hy207 => (intro wq hSw; (try simp only [Two] at hSw); go_simp; try with_reducible rfl)
        try simp only [Act.put, List.setIfInBounds_toArray, List.set_cons_zero, List.set_cons_succ]
        refine wpAnyH_take (i := 7) (oi := _) (v := ?v208) (List.getElem?_toArray.trans rfl) (by kernel_rfl) (by kernel_rfl) (by kernel_rfl) (fun _ _ _ h => h) (Or.inl ⟨by rfl, ?hy208⟩) (by assumption) ?rest208
        case hy208 => (intro wq hSw; (try simp only [Two] at hSw); go_simp; try with_reducible rfl)
        try simp only [Act.put, List.setIfInBounds_toArray, List.set_cons_zero, List.set_cons_succ]
        refine wpAnyH_take (i := 8) (oi := _) (v := ?v209) (List.getElem?_toArray.trans rfl) (by kernel_rfl) (by kernel_rfl) (by kernel_rfl) (fun _ _ _ h => h) (Or.inl ⟨by rfl, ?hy209⟩) (by assumption) ?rest209
        case hy209 => (intro wq hSw; (try simp only [Two] at hSw); go_simp; try with_reducible rfl)
        try simp only [Act.put, List.setIfInBounds_toArray, List.set_cons_zero, List.set_cons_succ]
        refine wpAnyH_take (i := 9) (oi := _) (v := (.bool true)) (List.getElem?_toArray.trans rfl) (by kernel_rfl) (by kernel_rfl) (by kernel_rfl) (fun _ _ _ h => h) (Or.inl ⟨by rfl, ?hy210⟩) (by assumption) ?rest210
        case hy210 => (intro wq hSw; (try simp only [Two] at hSw); go_simp; (all_goals (first | rfl | omega | simp [*])))
        try simp only [Act.put, List.setIfInBounds_toArray, List.set_cons_zero, List.set_cons_succ]
        refine wpAnyH_take (i := 10) (oi := _) (v := ?v211) (List.getElem?_toArray.trans rfl) (by kernel_rfl) (by kernel_rfl) (by kernel_rfl) (fun _ _ _ h => h) (Or.inl ⟨by rfl, ?hy211⟩) (by assumption) ?rest211
        case hy211 => (intro wq hSw; (try simp only [Two] at hSw); go_simp; try with_reducible rfl)
        try simp only [Act.put, List.setIfInBounds_toArray, List.set_cons_zero, List.set_cons_succ]
        refine wpAnyH_take (i := 11) (oi := _) (v := ?v212) (List.getElem?_toArray.trans rfl) (by kernel_rfl) (by kernel_rfl) (by kernel_rfl) (fun _ _ _ h => h) (Or.inl ⟨by rfl, ?hy212⟩) (by assumption) ?rest212
        case hy212 => (intro wq hSw; (try simp only [Two] at hSw); go_simp; try with_reducible rfl)
        try simp only [Act.put, List.setIfInBounds_toArray, List.set_cons_zero, List.set_cons_succ]
        refine wpAnyH_take (i := 12) (oi := _) (v := undef) (List.getElem?_toArray.trans rfl) (by kernel_rfl) (by kernel_rfl) (by kernel_rfl) (fun _ _ _ h => h) (Or.inr ⟨by rfl, rfl⟩) (by assumption) ?rest213
        try simp only [Act.put, List.setIfInBounds_toArray, List.set_cons_zero, List.set_cons_succ]
        refine wpAnyH_take (i := 13) (oi := _) (v := undef) (List.getElem?_toArray.trans rfl) (by kernel_rfl) (by kernel_rfl) (by kernel_rfl) (fun _ _ _ h => h) (Or.inr ⟨by rfl, rfl⟩) (by assumption) ?rest214
        try simp only [Act.put, List.setIfInBounds_toArray, List.set_cons_zero, List.set_cons_succ]
        refine wpAnyH_take (i := 14) (oi := _) (v := undef) (List.getElem?_toArray.trans rfl) (by kernel_rfl) (by kernel_rfl) (by kernel_rfl) (fun _ _ _ h => h) (Or.inr ⟨by rfl, rfl⟩) (by assumption) ?rest215
        try simp only [Act.put, List.setIfInBounds_toArray, List.set_cons_zero, List.set_cons_succ]
        refine wpAnyH_take (i := 15) (oi := _) (v := undef) (List.getElem?_toArray.trans rfl) (by kernel_rfl) (by kernel_rfl) (by kernel_rfl) (fun _ _ _ h => h) (Or.inr ⟨by rfl, rfl⟩) (by assumption) ?rest216
        try simp only [Act.put, List.setIfInBounds_toArray, List.set_cons_zero, List.set_cons_succ]
        refine wpAnyH_take (i := 16) (oi := _) (v := undef) (List.getElem?_toArray.trans rfl) (by kernel_rfl) (by kernel_rfl) (by kernel_rfl) (fun _ _ _ h => h) (Or.inr ⟨by rfl, rfl⟩) (by assumption) ?rest217
        try simp only [Act.put, List.setIfInBounds_toArray, List.set_cons_zero, List.set_cons_succ]
        refine wpAnyH_take (i := 17) (oi := _) (v := undef) (List.getElem?_toArray.trans rfl) (by kernel_rfl) (by kernel_rfl) (by kernel_rfl) (fun _ _ _ h => h) (Or.inr ⟨by rfl, rfl⟩) (by assumption) ?rest218
        try simp only [Act.put, List.setIfInBounds_toArray, List.set_cons_zero, List.set_cons_succ]
        refine wpAnyH_take (i := 18) (oi := _) (v := undef) (List.getElem?_toArray.trans rfl) (by kernel_rfl) (by kernel_rfl) (by kernel_rfl) (fun _ _ _ h => h) (Or.inr ⟨by rfl, rfl⟩) (by assumption) ?rest219
        try simp only [Act.put, List.setIfInBounds_toArray, List.set_cons_zero, List.set_cons_succ]
        refine wpAnyH_take (i := 19) (oi := _) (v := undef) (List.getElem?_toArray.trans rfl) (by kernel_rfl) (by kernel_rfl) (by kernel_rfl) (fun _ _ _ h => h) (Or.inr ⟨by rfl, rfl⟩) (by assumption) ?rest220
        try simp only [Act.put, List.setIfInBounds_toArray, List.set_cons_zero, List.set_cons_succ]
        refine wpAnyH_take (i := 20) (oi := _) (v := undef) (List.getElem?_toArray.trans rfl) (by kernel_rfl) (by kernel_rfl) (by kernel_rfl) (fun _ _ _ h => h) (Or.inr ⟨by rfl, rfl⟩) (by assumption) ?rest221
        try simp only [Act.put, List.setIfInBounds_toArray, List.set_cons_zero, List.set_cons_succ]
        refine wpAnyH_take (i := 21) (oi := _) (v := undef) (List.getElem?_toArray.trans rfl) (by kernel_rfl) (by kernel_rfl) (by kernel_rfl) (fun _ _ _ h => h) (Or.inr ⟨by rfl, rfl⟩) (by assumption) ?rest222
        try simp only [Act.put, List.setIfInBounds_toArray, List.set_cons_zero, List.set_cons_succ]
        refine wpAnyH_take (i := 22) (oi := _) (v := undef) (List.getElem?_toArray.trans rfl) (by kernel_rfl) (by kernel_rfl) (by kernel_rfl) (fun _ _ _ h => h) (Or.inr ⟨by rfl, rfl⟩) (by assumption) ?rest223
        try simp only [Act.put, List.setIfInBounds_toArray, List.set_cons_zero, List.set_cons_succ]
        refine wpAnyH_take (i := 23) (oi := _) (v := undef) (List.getElem?_toArray.trans rfl) (by kernel_rfl) (by kernel_rfl) (by kernel_rfl) (fun _ _ _ h => h) (Or.inr ⟨by rfl, rfl⟩) (by assumption) ?rest224
        try simp only [Act.put, List.setIfInBounds_toArray, List.set_cons_zero, List.set_cons_succ]
        refine wpAnyH_take (i := 24) (oi := _) (v := undef) (List.getElem?_toArray.trans rfl) (by kernel_rfl) (by kernel_rfl) (by kernel_rfl) (fun _ _ _ h => h) (Or.inr ⟨by rfl, rfl⟩) (by assumption) ?rest225
        try simp only [Act.put, List.setIfInBounds_toArray, List.set_cons_zero, List.set_cons_succ]
        refine wpAnyH_take (i := 25) (oi := _) (v := undef) (List.getElem?_toArray.trans rfl) (by kernel_rfl) (by kernel_rfl) (by kernel_rfl) (fun _ _ _ h => h) (Or.inr ⟨by rfl, rfl⟩) (by assumption) ?rest226
        try simp only [Act.put, List.setIfInBounds_toArray, List.set_cons_zero, List.set_cons_succ]
        refine wpAnyH_take (i := 26) (oi := _) (v := undef) (List.getElem?_toArray.trans rfl) (by kernel_rfl) (by kernel_rfl) (by kernel_rfl) (fun _ _ _ h => h) (Or.inr ⟨by rfl, rfl⟩) (by assumption) ?rest227
        try simp only [Act.put, List.setIfInBounds_toArray, List.set_cons_zero, List.set_cons_succ]
        refine wpAnyH_take (i := 27) (oi := _) (v := undef) (List.getElem?_toArray.trans rfl) (by kernel_rfl) (by kernel_rfl) (by kernel_rfl) (fun _ _ _ h => h) (Or.inr ⟨by rfl, rfl⟩) (by assumption) ?rest228
        try simp only [Act.put, List.setIfInBounds_toArray, List.set_cons_zero, List.set_cons_succ]
        refine wpAnyH_take (i := 28) (oi := _) (v := undef) (List.getElem?_toArray.trans rfl) (by kernel_rfl) (by kernel_rfl) (by kernel_rfl) (fun _ _ _ h => h) (Or.inr ⟨by rfl, rfl⟩) (by assumption) ?rest229
        try simp only [Act.put, List.setIfInBounds_toArray, List.set_cons_zero, List.set_cons_succ]
        refine wpAnyH_take (i := 29) (oi := _) (v := ?v230) (List.getElem?_toArray.trans rfl) (by kernel_rfl) (by kernel_rfl) (by kernel_rfl) (fun _ _ _ h => h) (Or.inl ⟨by rfl, ?hy230⟩) (by assumption) ?rest230
        case hy230 => (intro wq hSw; (try simp only [Two] at hSw); go_simp; try with_reducible rfl)
        try simp only [Act.put, List.setIfInBounds_toArray, List.set_cons_zero, List.set_cons_succ]
        refine wpAnyH_done (by kernel_rfl) ?fin200 _
        go_wp2
        go_ret2
        exact ⟨_, by first | rfl | simp, SA.out.below (Below.refl _ _).drew, B1.out.drew⟩
      have d2 : ¬ (s.size : Int) < (k : Int) + 8 + (n : Int) := by omega
      have lR : (s.extract (k + 8) (k + 8 + n)).data.toList = ((s.data.toList.drop k).drop 8).take n := by
        rw [ext_seg, List.drop_drop, show k + 8 + n - (k + 8) = n by omega]
      have lF : (s.extract k (k + 8 + n)).data.toList = (s.data.toList.drop k).take (8 + n) := by
        rw [ext_seg, show k + 8 + n - k = 8 + n by omega]
      have sR : (s.extract (k + 8) (k + 8 + n)).size = n := by rw [ByteArray.size_extract]; omega
      obtain ⟨R, hR⟩ : ∃ R, s.extract (k + 8) (k + 8 + n) = R := ⟨_, rfl⟩
      obtain ⟨F, hF⟩ : ∃ F, s.extract k (k + 8 + n) = F := ⟨_, rfl⟩
      rw [hR] at lR sR
      rw [hF] at lF
      have CO := hide (fun w => rof_c R (by omega) (rfl : frB R = frB R) w)
      have g1 : (0 : Int) ≤ (k : Int) + 8 := by omega
      have g2 : (k : Int) + 8 ≤ (k : Int) + 8 + (n : Int) := by omega
      have g3 : (k : Int) + 8 + (n : Int) ≤ (s.size : Int) := by omega
      have g4 : ((k : Int) + 8).toNat = k + 8 := by omega
      have g5 : ((k : Int) + 8 + (n : Int)).toNat = k + 8 + n := by omega
      have g6 : (k : Int) ≤ (k : Int) + 8 + (n : Int) := by omega
      have g7 : (0 : Int) ≤ (k : Int) + 8 + (n : Int) := by omega
      have hdi : hdF gs (s.data.toList.drop k) = if frF gs R.data.toList = F.data.toList then some R.data.toList else none := by
        unfold hdF
        rw [if_neg (by omega), if_neg (by omega), hrd, ← lR, ← lF]
      by_cases hfr : frB R = F
      · rw [if_pos (by rw [← frB_list, hfr])] at hdi
        obtain ⟨R', Y, rfl, hrr, r1, r2, r3, r4⟩ := sc_more p3 hdi
        obtain rfl : R = R' := bytes_eqF hrr
        rw [List.drop_drop] at r4
        rw [hfr] at CO
        have NX : Hid (L = (A ++ [R]) ++ Y ∧ k + (8 + n) ≤ N ∧ scF gs (s.data.toList.drop (k + (8 + n))) = (datL Y, N - (k + (8 + n)))) := ⟨by rw [p1, List.append_assoc]; rfl, by omega, by rw [← sR, r4, Nat.sub_sub]⟩
        have kn : k + (8 + n) ≤ s.size := by omega
        have ka : (A.length + 1) * 8 ≤ k + (8 + n) := by omega
        have ml : A.length + 1 ≤ maxLen := by unfold maxLen; omega
        have mb : (A.length + 1) * 16 ≤ 140737488355328 := by omega
        clear p1 p2 p3 hP H0 ld hn hbig hlong hrd hfr hdi hrr r1 r2 r3 r4 lR lF sR
        go_upto_region 5 with fail
        refine wp_region_held_drew (S := TTrueF) (by kernel_rfl) ?hS300 (fun hHeld => ?rest300)
        case hS300 => (exact trivial)
        refine wpAnyH_take (i := 0) (oi := _) (v := ?v301) (List.getElem?_toArray.trans rfl) (by kernel_rfl) (by kernel_rfl) (by kernel_rfl) (fun _ _ _ h => h) (Or.inl ⟨by rfl, ?hy301⟩) (by assumption) ?rest301
        case hy301 => (intro wq hSw; (try simp only [Two] at hSw); go_simp; try with_reducible rfl)
        try simp only [Act.put, List.setIfInBounds_toArray, List.set_cons_zero, List.set_cons_succ]
        refine wpAnyH_take (i := 1) (oi := _) (v := (.bool false)) (List.getElem?_toArray.trans rfl) (by kernel_rfl) (by kernel_rfl) (by kernel_rfl) (fun _ _ _ h => h) (Or.inl ⟨by rfl, ?hy302⟩) (by assumption) ?rest302
        case hy302 => (intro wq hSw; (try simp only [Two] at hSw); go_simp; (all_goals (first | rfl | omega | simp [*])))
        try simp only [Act.put, List.setIfInBounds_toArray, List.set_cons_zero, List.set_cons_succ]
        refine wpAnyH_take (i := 2) (oi := _) (v := ?v303) (List.getElem?_toArray.trans rfl) (by kernel_rfl) (by kernel_rfl) (by kernel_rfl) (fun _ _ _ h => h) (Or.inl ⟨by rfl, ?hy303⟩) (by assumption) ?rest303
        case hy303 => (intro wq hSw; (try simp only [Two] at hSw); go_simp; try with_reducible rfl)
        try simp only [Act.put, List.setIfInBounds_toArray, List.set_cons_zero, List.set_cons_succ]
        refine wpAnyH_take (i := 3) (oi := _) (v := ?v304) (List.getElem?_toArray.trans rfl) (by kernel_rfl) (by kernel_rfl) (by kernel_rfl) (fun _ _ _ h => h) (Or.inl ⟨by rfl, ?hy304⟩) (by assumption) ?rest304
        case hy304 => (intro wq hSw; (try simp only [Two] at hSw); go_simp; try with_reducible rfl)
        try simp only [Act.put, List.setIfInBounds_toArray, List.set_cons_zero, List.set_cons_succ]
        refine wpAnyH_take (i := 4) (oi := _) (v := ?v305) (List.getElem?_toArray.trans rfl) (by kernel_rfl) (by kernel_rfl) (by kernel_rfl) (fun _ _ _ h => h) (Or.inl ⟨by rfl, ?hy305⟩) (by assumption) ?rest305
        case hy305 => (intro wq hSw; (try simp only [Two] at hSw); go_simp; try with_reducible rfl)
        try simp only [Act.put, List.setIfInBounds_toArray, List.set_cons_zero, List.set_cons_succ]
        refine wpAnyH_take (i := 5) (oi := _) (v := ?v306) (List.getElem?_toArray.trans rfl) (by kernel_rfl) (by kernel_rfl) (by kernel_rfl) (fun _ _ _ h => h) (Or.inl ⟨by rfl, ?hy306⟩) (by assumption) ?rest306
        case hy306 => (intro wq hSw; (try simp only [Two] at hSw); go_simp; try with_reducible rfl)
        try simp only [Act.put, List.setIfInBounds_toArray, List.set_cons_zero, List.set_cons_succ]
        refine wpAnyH_take (i := 6) (oi := _) (v := ?v307) (List.getElem?_toArray.trans rfl) (by kernel_rfl) (by kernel_rfl) (by kernel_rfl) (fun _ _ _ h => h) (Or.inl ⟨by rfl, ?hy307⟩) (by assumption) ?rest307
        case hy307 => (intro wq hSw; (try simp only [Two] at hSw); go_simp; try with_reducible rfl)
        try simp only [Act.put, List.setIfInBounds_toArray, List.set_cons_zero, List.set_cons_succ]
        refine wpAnyH_take (i := 7) (oi := _) (v := ?v308) (List.getElem?_toArray.trans rfl) (by kernel_rfl) (by kernel_rfl) (by kernel_rfl) (fun _ _ _ h => h) (Or.inl ⟨by rfl, ?hy308⟩) (by assumption) ?rest308
        case hy308 => (intro wq hSw; (try simp only [Two] at hSw); go_simp; try with_reducible rfl)
        try simp only [Act.put, List.setIfInBounds_toArray, List.set_cons_zero, List.set_cons_succ]
        refine wpAnyH_take (i := 8) (oi := _) (v := ?v309) (List.getElem?_toArray.trans rfl) (by kernel_rfl) (by kernel_rfl) (by kernel_rfl) (fun _ _ _ h => h) (Or.inl ⟨by rfl, ?hy309⟩) (by assumption) ?rest309
        case hy309 => (intro wq hSw; (try simp only [Two] at hSw); go_simp; try with_reducible rfl)
        try simp only [Act.put, List.setIfInBounds_toArray, List.set_cons_zero, List.set_cons_succ]
        refine wpAnyH_take (i := 9) (oi := _) (v := (.bool false)) (List.getElem?_toArray.trans rfl) (by kernel_rfl) (by kernel_rfl) (by kernel_rfl) (fun _ _ _ h => h) (Or.inl ⟨by rfl, ?hy310⟩) (by assumption) ?rest310
        case hy310 => (intro wq hSw; (try simp only [Two] at hSw); go_simp; (all_goals (first | rfl | omega | simp [*])))
        try simp only [Act.put, List.setIfInBounds_toArray, List.set_cons_zero, List.set_cons_succ]
        refine wpAnyH_take (i := 10) (oi := _) (v := ?v311) (List.getElem?_toArray.trans rfl) (by kernel_rfl) (by kernel_rfl) (by kernel_rfl) (fun _ _ _ h => h) (Or.inl ⟨by rfl, ?hy311⟩) (by assumption) ?rest311
        case hy311 => (intro wq hSw; (try simp only [Two] at hSw); go_simp; try with_reducible rfl)
        try simp only [Act.put, List.setIfInBounds_toArray, List.set_cons_zero, List.set_cons_succ]
        refine wpAnyH_take (i := 11) (oi := _) (v := ?v312) (List.getElem?_toArray.trans rfl) (by kernel_rfl) (by kernel_rfl) (by kernel_rfl) (fun _ _ _ h => h) (Or.inl ⟨by rfl, ?hy312⟩) (by assumption) ?rest312
        case hy312 => (intro wq hSw; (try simp only [Two] at hSw); go_simp; try with_reducible rfl)
        try simp only [Act.put, List.setIfInBounds_toArray, List.set_cons_zero, List.set_cons_succ]
        refine wpAnyH_take (i := 12) (oi := _) (v := ?v313) (List.getElem?_toArray.trans rfl) (by kernel_rfl) (by kernel_rfl) (by kernel_rfl) (fun _ _ _ h => h) (Or.inl ⟨by rfl, ?hy313⟩) (by assumption) ?rest313
        case hy313 => (intro wq hSw; (try simp only [Two] at hSw); go_simp; try with_reducible rfl)
        try simp only [Act.put, List.setIfInBounds_toArray, List.set_cons_zero, List.set_cons_succ]
        refine wpAnyH_take (i := 13) (oi := _) (v := ?v314) (List.getElem?_toArray.trans rfl) (by kernel_rfl) (by kernel_rfl) (by kernel_rfl) (fun _ _ _ h => h) (Or.inl ⟨by rfl, ?hy314⟩) (by assumption) ?rest314
        case hy314 => (intro wq hSw; (try simp only [Two] at hSw); go_simp; try with_reducible rfl)
        try simp only [Act.put, List.setIfInBounds_toArray, List.set_cons_zero, List.set_cons_succ]
        refine wpAnyH_take (i := 14) (oi := _) (v := ?v315) (List.getElem?_toArray.trans rfl) (by kernel_rfl) (by kernel_rfl) (by kernel_rfl) (fun _ _ _ h => h) (Or.inl ⟨by rfl, ?hy315⟩) (by assumption) ?rest315
        case hy315 => (intro wq hSw; (try simp only [Two] at hSw); go_simp; try with_reducible rfl)
        try simp only [Act.put, List.setIfInBounds_toArray, List.set_cons_zero, List.set_cons_succ]
        refine wpAnyH_take (i := 15) (oi := _) (v := ?v316) (List.getElem?_toArray.trans rfl) (by kernel_rfl) (by kernel_rfl) (by kernel_rfl) (fun _ _ _ h => h) (Or.inl ⟨by rfl, ?hy316⟩) (by assumption) ?rest316
        case hy316 => (intro wq hSw; (try simp only [Two] at hSw); go_simp; try with_reducible rfl)
        try simp only [Act.put, List.setIfInBounds_toArray, List.set_cons_zero, List.set_cons_succ]
        refine wpAnyH_take (i := 16) (oi := _) (v := ?v317) (List.getElem?_toArray.trans rfl) (by kernel_rfl) (by kernel_rfl) (by kernel_rfl) (fun _ _ _ h => h) (Or.inl ⟨by rfl, ?hy317⟩) (by assumption) ?rest317
        case hy317 => (intro wq hSw; (try simp only [Two] at hSw); go_simp; try with_reducible rfl)
        try simp only [Act.put, List.setIfInBounds_toArray, List.set_cons_zero, List.set_cons_succ]
        refine wpAnyH_take (i := 17) (oi := _) (v := ?v318) (List.getElem?_toArray.trans rfl) (by kernel_rfl) (by kernel_rfl) (by kernel_rfl) (fun _ _ _ h => h) (Or.inl ⟨by rfl, ?hy318⟩) (by assumption) ?rest318
        case hy318 => (intro wq hSw; (try simp only [Two] at hSw); go_simp; try with_reducible rfl)
        try simp only [Act.put, List.setIfInBounds_toArray, List.set_cons_zero, List.set_cons_succ]
        refine wpAnyH_take (i := 18) (oi := _) (v := ?v319) (List.getElem?_toArray.trans rfl) (by kernel_rfl) (by kernel_rfl) (by kernel_rfl) (fun _ _ _ h => h) (Or.inl ⟨by rfl, ?hy319⟩) (by assumption) ?rest319
        case hy319 => (intro wq hSw; (try simp only [Two] at hSw); go_simp; try with_reducible rfl)
        try simp only [Act.put, List.setIfInBounds_toArray, List.set_cons_zero, List.set_cons_succ]
        refine wpAnyH_take (i := 19) (oi := _) (v := ?v320) (List.getElem?_toArray.trans rfl) (by kernel_rfl) (by kernel_rfl) (by kernel_rfl) (fun _ _ _ h => h) (Or.inl ⟨by rfl, ?hy320⟩) (by assumption) ?rest320
        case hy320 => (intro wq hSw; (try simp only [Two] at hSw); go_simp; try with_reducible rfl)
        try simp only [Act.put, List.setIfInBounds_toArray, List.set_cons_zero, List.set_cons_succ]
        refine wpAnyH_take (i := 21) (oi := _) (v := ?v321) (List.getElem?_toArray.trans rfl) (by kernel_rfl) (by kernel_rfl) (by kernel_rfl) (fun _ _ _ h => h) (Or.inl ⟨by rfl, ?hy321⟩) (by assumption) ?rest321
        case hy321 => (intro wq hSw; (try simp only [Two] at hSw); go_simp; try with_reducible rfl)
        try simp only [Act.put, List.setIfInBounds_toArray, List.set_cons_zero, List.set_cons_succ]
        refine wpAnyH_take (i := 22) (oi := _) (v := ?v322) (List.getElem?_toArray.trans rfl) (by kernel_rfl) (by kernel_rfl) (by kernel_rfl) (fun _ _ _ h => h) (Or.inl ⟨by rfl, ?hy322⟩) (by assumption) ?rest322
        case hy322 => (intro wq hSw; (try simp only [Two] at hSw); go_simp; try with_reducible rfl)
        try simp only [Act.put, List.setIfInBounds_toArray, List.set_cons_zero, List.set_cons_succ]
        refine wpAnyH_take (i := 23) (oi := _) (v := ?v323) (List.getElem?_toArray.trans rfl) (by kernel_rfl) (by kernel_rfl) (by kernel_rfl) (fun _ _ _ h => h) (Or.inl ⟨by rfl, ?hy323⟩) (by assumption) ?rest323
        case hy323 => (intro wq hSw; (try simp only [Two] at hSw); go_simp; try with_reducible rfl)
        try simp only [Act.put, List.setIfInBounds_toArray, List.set_cons_zero, List.set_cons_succ]
        refine wpAnyH_take (i := 24) (oi := _) (v := ?v324) (List.getElem?_toArray.trans rfl) (by kernel_rfl) (by kernel_rfl) (by kernel_rfl) (fun _ _ _ h => h) (Or.inl ⟨by rfl, ?hy324⟩) (by assumption) ?rest324
        case hy324 => (intro wq hSw; (try simp only [Two] at hSw); go_simp; try with_reducible rfl)
        try simp only [Act.put, List.setIfInBounds_toArray, List.set_cons_zero, List.set_cons_succ]
        refine wpAnyH_take (i := 25) (oi := _) (v := ?v325) (List.getElem?_toArray.trans rfl) (by kernel_rfl) (by kernel_rfl) (by kernel_rfl) (fun _ _ _ h => h) (Or.inl ⟨by rfl, ?hy325⟩) (by assumption) ?rest325
        case hy325 => (intro wq hSw; (try simp only [Two] at hSw); go_simp; try with_reducible rfl)
        try simp only [Act.put, List.setIfInBounds_toArray, List.set_cons_zero, List.set_cons_succ]
        refine wpAnyH_take (i := 26) (oi := _) (v := ?v326) (List.getElem?_toArray.trans rfl) (by kernel_rfl) (by kernel_rfl) (by kernel_rfl) (fun _ _ _ h => h) (Or.inl ⟨by rfl, ?hy326⟩) (by assumption) ?rest326
        case hy326 => (intro wq hSw; (try simp only [Two] at hSw); go_simp; try with_reducible rfl)
        try simp only [Act.put, List.setIfInBounds_toArray, List.set_cons_zero, List.set_cons_succ]
        refine wpAnyH_take (i := 27) (oi := _) (v := ?v327) (List.getElem?_toArray.trans rfl) (by kernel_rfl) (by kernel_rfl) (by kernel_rfl) (fun _ _ _ h => h) (Or.inl ⟨by rfl, ?hy327⟩) (by assumption) ?rest327
        case hy327 => (intro wq hSw; (try simp only [Two] at hSw); go_simp; try with_reducible rfl)
        try simp only [Act.put, List.setIfInBounds_toArray, List.set_cons_zero, List.set_cons_succ]
        refine wpAnyH_ready (rs := [20]) (by kernel_rfl) (by simp) ?rdy328
        refine AllReadyH.cons (List.getElem?_toArray.trans rfl) (fun K hK => ?stp328) AllReadyH.nil
        go_simp
        go_wp2_with fail
        (refine (CO.out _).mono ?_; rintro e w5 ⟨rfl, hb5⟩)
        go_wp2_with fail
        refine hK.out _ _ ?hSn328 (fun hHeld2 => ?rest328)
        case hSn328 => (exact trivial)
        clear hK K hHeld
        have hHeld := hHeld2
        clear hHeld2
        try simp only [Act.put, List.setIfInBounds_toArray, List.set_cons_zero, List.set_cons_succ]
        refine wpAnyH_take (i := 28) (oi := _) (v := ?v329) (List.getElem?_toArray.trans rfl) (by kernel_rfl) (by kernel_rfl) (by kernel_rfl) (fun _ _ _ h => h) (Or.inl ⟨by rfl, ?hy329⟩) (by assumption) ?rest329
        case hy329 => (intro wq hSw; (try simp only [Two] at hSw); go_simp; try with_reducible rfl)
        try simp only [Act.put, List.setIfInBounds_toArray, List.set_cons_zero, List.set_cons_succ]
        refine wpAnyH_take (i := 29) (oi := _) (v := ?v330) (List.getElem?_toArray.trans rfl) (by kernel_rfl) (by kernel_rfl) (by kernel_rfl) (fun _ _ _ h => h) (Or.inl ⟨by rfl, ?hy330⟩) (by assumption) ?rest330
        case hy330 => (intro wq hSw; (try simp only [Two] at hSw); go_simp; try with_reducible rfl)
        try simp only [Act.put, List.setIfInBounds_toArray, List.set_cons_zero, List.set_cons_succ]
        refine wpAnyH_done (by kernel_rfl) ?fin300 _
        have BW : Below wq.heap.size wq w5 := (Below.refl wq.heap.size wq).drew.trans hb5
        have O2 := own_belowF O1.out BW
        have B2 := B1.out.trans (BW.mono B1.out.size)
        have bz : w.heap.size ≤ w5.heap.size := B2.size
        have bz2 : w.heap.size ≤ (w5.alloc (.cells #[.string R] 9)).heap.size := by simp; omega
        clear hHeld hb5 CO BW O1 B1
        go_wp2_with (first | (at_builtin; refine wpList_append_own _ rfl _ _ 29 rfl w.heap.size 9 i0 (.string ⟨#[]⟩) 1 16 Tryd.underlying29 hi hz0 hz1 hz2 rfl (by decide) _ _ _ rfl (O2.alloc _) ⟨w5.heap.size, 0, none⟩ 1 1 [.string R] rfl rfl ?c1 ?c2 ml mb bz2 ?_))
        case c1 =>
          intro j u hj
          match j, hj with
          | 0, hj => simp at hj; subst hj; simp [Addr.add]
        case c2 => intro u hu; simp at hu; subst hu; rfl
        intro v' w6 hown2 hgrow hnil
        have B3 := hide (below_grownF B2 bz O2 hgrow)
        have O3 := hide hown2
        clear hown2 hgrow hnil O2 B2 bz bz2 ml mb
        go_wp2
        go_roundw
        case measure => simp [intOf]; omega
        case rel =>
          refine ⟨k + (8 + n), A ++ [R], Y, ?_, kn, by simpa using ka, NX, ?_, B3⟩
          · congr 1
            omega
          · have q := O3.out
            show World.ownsRow _ _ _ _ _ _ _
            simpa using q
      · rw [if_neg (fun e => hfr (bytes_eqF (by rw [frB_list]; exact e)))] at hdi
        obtain ⟨rfl, z2⟩ := sc_end p3 hdi
        obtain rfl : k = N := by omega
        rw [List.append_nil] at p1
        subst p1
        have SA := hide (StrsAt.own O1.out)
        obtain ⟨T, hT⟩ : ∃ T, frB R = T := ⟨_, rfl⟩
        rw [hT] at hfr CO
        have ne := str_ne hfr
        clear p2 p3 hP O1 z2 H0 hi hz0 hz1 hz2 ld hn hbig hlong hrd hfr hdi lR lF sR hT
        go_upto_region 5 with fail
        refine wp_region_held_drew (S := TTrueF) (by kernel_rfl) ?hS400 (fun hHeld => ?rest400)
        case hS400 => (exact trivial)
        refine wpAnyH_take (i := 0) (oi := _) (v := ?v401) (List.getElem?_toArray.trans rfl) (by kernel_rfl) (by kernel_rfl) (by kernel_rfl) (fun _ _ _ h => h) (Or.inl ⟨by rfl, ?hy401⟩) (by assumption) ?rest401
        case hy401 => (intro wq hSw; (try simp only [Two] at hSw); go_simp; try with_reducible rfl)
        try simp only [Act.put, List.setIfInBounds_toArray, List.set_cons_zero, List.set_cons_succ]
        refine wpAnyH_take (i := 1) (oi := _) (v := (.bool false)) (List.getElem?_toArray.trans rfl) (by kernel_rfl) (by kernel_rfl) (by kernel_rfl) (fun _ _ _ h => h) (Or.inl ⟨by rfl, ?hy402⟩) (by assumption) ?rest402
        case hy402 => (intro wq hSw; (try simp only [Two] at hSw); go_simp; (all_goals (first | rfl | omega | simp [*])))
        try simp only [Act.put, List.setIfInBounds_toArray, List.set_cons_zero, List.set_cons_succ]
        refine wpAnyH_take (i := 2) (oi := _) (v := ?v403) (List.getElem?_toArray.trans rfl) (by kernel_rfl) (by kernel_rfl) (by kernel_rfl) (fun _ _ _ h => h) (Or.inl ⟨by rfl, ?hy403⟩) (by assumption) ?rest403
        case hy403 => (intro wq hSw; (try simp only [Two] at hSw); go_simp; try with_reducible rfl)
        try simp only [Act.put, List.setIfInBounds_toArray, List.set_cons_zero, List.set_cons_succ]
        refine wpAnyH_take (i := 3) (oi := _) (v := ?v404) (List.getElem?_toArray.trans rfl) (by kernel_rfl) (by kernel_rfl) (by kernel_rfl) (fun _ _ _ h => h) (Or.inl ⟨by rfl, ?hy404⟩) (by assumption) ?rest404
        case hy404 => (intro wq hSw; (try simp only [Two] at hSw); go_simp; try with_reducible rfl)
        try simp only [Act.put, List.setIfInBounds_toArray, List.set_cons_zero, List.set_cons_succ]
        refine wpAnyH_take (i := 4) (oi := _) (v := ?v405) (List.getElem?_toArray.trans rfl) (by kernel_rfl) (by kernel_rfl) (by kernel_rfl) (fun _ _ _ h => h) (Or.inl ⟨by rfl, ?hy405⟩) (by assumption) ?rest405
        case hy405 => (intro wq hSw; (try simp only [Two] at hSw); go_simp; try with_reducible rfl)
        try simp only [Act.put, List.setIfInBounds_toArray, List.set_cons_zero, List.set_cons_succ]
        refine wpAnyH_take (i := 5) (oi := _) (v := ?v406) (List.getElem?_toArray.trans rfl) (by kernel_rfl) (by kernel_rfl) (by kernel_rfl) (fun _ _ _ h => h) (Or.inl ⟨by rfl, ?hy406⟩) (by assumption) ?rest406
        case hy406 => (intro wq hSw; (try simp only [Two] at hSw); go_simp; try with_reducible rfl)
        try simp only [Act.put, List.setIfInBounds_toArray, List.set_cons_zero, List.set_cons_succ]
        refine wpAnyH_take (i := 6) (oi := _) (v := ?v407) (List.getElem?_toArray.trans rfl) (by kernel_rfl) (by kernel_rfl) (by kernel_rfl) (fun _ _ _ h => h) (Or.inl ⟨by rfl, ?hy407⟩) (by assumption) ?rest407
        case hy407 => (intro wq hSw; (try simp only [Two] at hSw); go_simp; try with_reducible rfl)
        try simp only [Act.put, List.setIfInBounds_toArray, List.set_cons_zero, List.set_cons_succ]
        refine wpAnyH_take (i := 7) (oi := _) (v := ?v408) (List.getElem?_toArray.trans rfl) (by kernel_rfl) (by kernel_rfl) (by kernel_rfl) (fun _ _ _ h => h) (Or.inl ⟨by rfl, ?hy408⟩) (by assumption) ?rest408
        case hy408 => (intro wq hSw; (try simp only [Two] at hSw); go_simp; try with_reducible rfl)
        try simp only [Act.put, List.setIfInBounds_toArray, List.set_cons_zero, List.set_cons_succ]
        refine wpAnyH_take (i := 8) (oi := _) (v := ?v409) (List.getElem?_toArray.trans rfl) (by kernel_rfl) (by kernel_rfl) (by kernel_rfl) (fun _ _ _ h => h) (Or.inl ⟨by rfl, ?hy409⟩) (by assumption) ?rest409
        case hy409 => (intro wq hSw; (try simp only [Two] at hSw); go_simp; try with_reducible rfl)
        try simp only [Act.put, List.setIfInBounds_toArray, List.set_cons_zero, List.set_cons_succ]
        refine wpAnyH_take (i := 9) (oi := _) (v := (.bool false)) (List.getElem?_toArray.trans rfl) (by kernel_rfl) (by kernel_rfl) (by kernel_rfl) (fun _ _ _ h => h) (Or.inl ⟨by rfl, ?hy410⟩) (by assumption) ?rest410
        case hy410 => (intro wq hSw; (try simp only [Two] at hSw); go_simp; (all_goals (first | rfl | omega | simp [*])))
        try simp only [Act.put, List.setIfInBounds_toArray, List.set_cons_zero, List.set_cons_succ]
        refine wpAnyH_take (i := 10) (oi := _) (v := ?v411) (List.getElem?_toArray.trans rfl) (by kernel_rfl) (by kernel_rfl) (by kernel_rfl) (fun _ _ _ h => h) (Or.inl ⟨by rfl, ?hy411⟩) (by assumption) ?rest411
        case hy411 => (intro wq hSw; (try simp only [Two] at hSw); go_simp; try with_reducible rfl)
        try simp only [Act.put, List.setIfInBounds_toArray, List.set_cons_zero, List.set_cons_succ]
        refine wpAnyH_take (i := 11) (oi := _) (v := ?v412) (List.getElem?_toArray.trans rfl) (by kernel_rfl) (by kernel_rfl) (by kernel_rfl) (fun _ _ _ h => h) (Or.inl ⟨by rfl, ?hy412⟩) (by assumption) ?rest412
        case hy412 => (intro wq hSw; (try simp only [Two] at hSw); go_simp; try with_reducible rfl)
        try simp only [Act.put, List.setIfInBounds_toArray, List.set_cons_zero, List.set_cons_succ]
        refine wpAnyH_take (i := 12) (oi := _) (v := ?v413) (List.getElem?_toArray.trans rfl) (by kernel_rfl) (by kernel_rfl) (by kernel_rfl) (fun _ _ _ h => h) (Or.inl ⟨by rfl, ?hy413⟩) (by assumption) ?rest413
        case hy413 => (intro wq hSw; (try simp only [Two] at hSw); go_simp; try with_reducible rfl)
        try simp only [Act.put, List.setIfInBounds_toArray, List.set_cons_zero, List.set_cons_succ]
        refine wpAnyH_take (i := 13) (oi := _) (v := ?v414) (List.getElem?_toArray.trans rfl) (by kernel_rfl) (by kernel_rfl) (by kernel_rfl) (fun _ _ _ h => h) (Or.inl ⟨by rfl, ?hy414⟩) (by assumption) ?rest414
        case hy414 => (intro wq hSw; (try simp only [Two] at hSw); go_simp; try with_reducible rfl)
        try simp only [Act.put, List.setIfInBounds_toArray, List.set_cons_zero, List.set_cons_succ]
        refine wpAnyH_take (i := 14) (oi := _) (v := ?v415) (List.getElem?_toArray.trans rfl) (by kernel_rfl) (by kernel_rfl) (by kernel_rfl) (fun _ _ _ h => h) (Or.inl ⟨by rfl, ?hy415⟩) (by assumption) ?rest415
        case hy415 => (intro wq hSw; (try simp only [Two] at hSw); go_simp; try with_reducible rfl)
        try simp only [Act.put, List.setIfInBounds_toArray, List.set_cons_zero, List.set_cons_succ]
        refine wpAnyH_take (i := 15) (oi := _) (v := ?v416) (List.getElem?_toArray.trans rfl) (by kernel_rfl) (by kernel_rfl) (by kernel_rfl) (fun _ _ _ h => h) (Or.inl ⟨by rfl, ?hy416⟩) (by assumption) ?rest416
        case hy416 => (intro wq hSw; (try simp only [Two] at hSw); go_simp; try with_reducible rfl)
        try simp only [Act.put, List.setIfInBounds_toArray, List.set_cons_zero, List.set_cons_succ]
        refine wpAnyH_take (i := 16) (oi := _) (v := ?v417) (List.getElem?_toArray.trans rfl) (by kernel_rfl) (by kernel_rfl) (by kernel_rfl) (fun _ _ _ h => h) (Or.inl ⟨by rfl, ?hy417⟩) (by assumption) ?rest417
        case hy417 => (intro wq hSw; (try simp only [Two] at hSw); go_simp; try with_reducible rfl)
        try simp only [Act.put, List.setIfInBounds_toArray, List.set_cons_zero, List.set_cons_succ]
        refine wpAnyH_take (i := 17) (oi := _) (v := ?v418) (List.getElem?_toArray.trans rfl) (by kernel_rfl) (by kernel_rfl) (by kernel_rfl) (fun _ _ _ h => h) (Or.inl ⟨by rfl, ?hy418⟩) (by assumption) ?rest418
        case hy418 => (intro wq hSw; (try simp only [Two] at hSw); go_simp; try with_reducible rfl)
        try simp only [Act.put, List.setIfInBounds_toArray, List.set_cons_zero, List.set_cons_succ]
        refine wpAnyH_take (i := 18) (oi := _) (v := ?v419) (List.getElem?_toArray.trans rfl) (by kernel_rfl) (by kernel_rfl) (by kernel_rfl) (fun _ _ _ h => h) (Or.inl ⟨by rfl, ?hy419⟩) (by assumption) ?rest419
        case hy419 => (intro wq hSw; (try simp only [Two] at hSw); go_simp; try with_reducible rfl)
        try simp only [Act.put, List.setIfInBounds_toArray, List.set_cons_zero, List.set_cons_succ]
        refine wpAnyH_take (i := 19) (oi := _) (v := ?v420) (List.getElem?_toArray.trans rfl) (by kernel_rfl) (by kernel_rfl) (by kernel_rfl) (fun _ _ _ h => h) (Or.inl ⟨by rfl, ?hy420⟩) (by assumption) ?rest420
        case hy420 => (intro wq hSw; (try simp only [Two] at hSw); go_simp; try with_reducible rfl)
        try simp only [Act.put, List.setIfInBounds_toArray, List.set_cons_zero, List.set_cons_succ]
        refine wpAnyH_take (i := 21) (oi := _) (v := ?v421) (List.getElem?_toArray.trans rfl) (by kernel_rfl) (by kernel_rfl) (by kernel_rfl) (fun _ _ _ h => h) (Or.inl ⟨by rfl, ?hy421⟩) (by assumption) ?rest421
        case hy421 => (intro wq hSw; (try simp only [Two] at hSw); go_simp; try with_reducible rfl)
        try simp only [Act.put, List.setIfInBounds_toArray, List.set_cons_zero, List.set_cons_succ]
        refine wpAnyH_take (i := 22) (oi := _) (v := ?v422) (List.getElem?_toArray.trans rfl) (by kernel_rfl) (by kernel_rfl) (by kernel_rfl) (fun _ _ _ h => h) (Or.inl ⟨by rfl, ?hy422⟩) (by assumption) ?rest422
        case hy422 => (intro wq hSw; (try simp only [Two] at hSw); go_simp; try with_reducible rfl)
        try simp only [Act.put, List.setIfInBounds_toArray, List.set_cons_zero, List.set_cons_succ]
        refine wpAnyH_take (i := 23) (oi := _) (v := ?v423) (List.getElem?_toArray.trans rfl) (by kernel_rfl) (by kernel_rfl) (by kernel_rfl) (fun _ _ _ h => h) (Or.inl ⟨by rfl, ?hy423⟩) (by assumption) ?rest423
        case hy423 => (intro wq hSw; (try simp only [Two] at hSw); go_simp; try with_reducible rfl)
        try simp only [Act.put, List.setIfInBounds_toArray, List.set_cons_zero, List.set_cons_succ]
        refine wpAnyH_take (i := 24) (oi := _) (v := ?v424) (List.getElem?_toArray.trans rfl) (by kernel_rfl) (by kernel_rfl) (by kernel_rfl) (fun _ _ _ h => h) (Or.inl ⟨by rfl, ?hy424⟩) (by assumption) ?rest424
        case hy424 => (intro wq hSw; (try simp only [Two] at hSw); go_simp; try with_reducible rfl)
        try simp only [Act.put, List.setIfInBounds_toArray, List.set_cons_zero, List.set_cons_succ]
        refine wpAnyH_take (i := 25) (oi := _) (v := ?v425) (List.getElem?_toArray.trans rfl) (by kernel_rfl) (by kernel_rfl) (by kernel_rfl) (fun _ _ _ h => h) (Or.inl ⟨by rfl, ?hy425⟩) (by assumption) ?rest425
        case hy425 => (intro wq hSw; (try simp only [Two] at hSw); go_simp; try with_reducible rfl)
        try simp only [Act.put, List.setIfInBounds_toArray, List.set_cons_zero, List.set_cons_succ]
        refine wpAnyH_take (i := 26) (oi := _) (v := ?v426) (List.getElem?_toArray.trans rfl) (by kernel_rfl) (by kernel_rfl) (by kernel_rfl) (fun _ _ _ h => h) (Or.inl ⟨by rfl, ?hy426⟩) (by assumption) ?rest426
        case hy426 => (intro wq hSw; (try simp only [Two] at hSw); go_simp; try with_reducible rfl)
        try simp only [Act.put, List.setIfInBounds_toArray, List.set_cons_zero, List.set_cons_succ]
        refine wpAnyH_take (i := 27) (oi := _) (v := ?v427) (List.getElem?_toArray.trans rfl) (by kernel_rfl) (by kernel_rfl) (by kernel_rfl) (fun _ _ _ h => h) (Or.inl ⟨by rfl, ?hy427⟩) (by assumption) ?rest427
        case hy427 => (intro wq hSw; (try simp only [Two] at hSw); go_simp; try with_reducible rfl)
        try simp only [Act.put, List.setIfInBounds_toArray, List.set_cons_zero, List.set_cons_succ]
        refine wpAnyH_ready (rs := [20]) (by kernel_rfl) (by simp) ?rdy428
        refine AllReadyH.cons (List.getElem?_toArray.trans rfl) (fun K hK => ?stp428) AllReadyH.nil
        go_simp
        go_wp2_with fail
        (refine (CO.out _).mono ?_; rintro e w5 ⟨rfl, hb5⟩)
        go_wp2_with fail
        refine hK.out _ _ ?hSn428 (fun hHeld2 => ?rest428)
        case hSn428 => (exact trivial)
        clear hK K hHeld
        have hHeld := hHeld2
        clear hHeld2
        try simp only [Act.put, List.setIfInBounds_toArray, List.set_cons_zero, List.set_cons_succ]
        refine wpAnyH_take (i := 28) (oi := _) (v := ?v429) (List.getElem?_toArray.trans rfl) (by kernel_rfl) (by kernel_rfl) (by kernel_rfl) (fun _ _ _ h => h) (Or.inl ⟨by rfl, ?hy429⟩) (by assumption) ?rest429
        case hy429 => (intro wq hSw; (try simp only [Two] at hSw); go_simp; try with_reducible rfl)
        try simp only [Act.put, List.setIfInBounds_toArray, List.set_cons_zero, List.set_cons_succ]
        refine wpAnyH_take (i := 29) (oi := _) (v := ?v430) (List.getElem?_toArray.trans rfl) (by kernel_rfl) (by kernel_rfl) (by kernel_rfl) (fun _ _ _ h => h) (Or.inl ⟨by rfl, ?hy430⟩) (by assumption) ?rest430
        case hy430 => (intro wq hSw; (try simp only [Two] at hSw); go_simp; try with_reducible rfl)
        try simp only [Act.put, List.setIfInBounds_toArray, List.set_cons_zero, List.set_cons_succ]
        refine wpAnyH_done (by kernel_rfl) ?fin400 _
        have BW : Below wq.heap.size wq w5 := (Below.refl wq.heap.size wq).drew.trans hb5
        have SB := hide (SA.out.below BW)
        have B2 := hide (B1.out.trans (BW.mono B1.out.size))
        clear hHeld hb5 CO BW SA B1
        go_wp2
        go_ret2
        exact ⟨_, by first | rfl | simp, SB.out, B2.out⟩
    · have hki : ¬ (k : Int) + 8 ≤ (s.size : Int) := by omega
      have ld : (s.data.toList.drop k).length = s.size - k := by rw [List.length_drop, len_of]
      obtain ⟨rfl, z2⟩ := sc_end p3 (by unfold hdF; rw [if_pos (by omega)])
      obtain rfl : k = N := by omega
      rw [List.append_nil] at p1
      subst p1
      have SA := hide (StrsAt.own hO.out)
      clear p2 p3 hP hO z2 H0 hi hz0 hz1 hz2 ld h8
      go_wp2
      go_ret2
      exact ⟨_, by first | rfl | simp, SA.out, hB.out⟩
end Go.Proofs.YtahdgdoicpgcmaaDoor
