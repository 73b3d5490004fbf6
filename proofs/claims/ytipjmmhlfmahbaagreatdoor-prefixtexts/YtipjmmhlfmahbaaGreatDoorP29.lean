/-
  Texts RPr6, RPrA of the proof.
-/
import Derived.Test.YtipjmmhlfmahbaaGreatDoorP27
import Derived.Test.YtipjmmhlfmahbaaGreatDoorP28

namespace Go.Proofs.YtipjmmhlfmahbaaGreatDoor
open Go.ChangeShapes Go.WideShapes Go.ChangeAt Go.RowKit
set_option linter.unusedVariables false
set_option linter.unusedSimpArgs false

/-- Two cells that are read. -/
def Pr2 (w : World) (g i j : Nat) (x y : Int) (W : World) : Prop := (W.cell? ⟨g, i, none⟩ = some (.int .u8 x) ∧ W.cell? ⟨g, j, none⟩ = some (.int .u8 y)) ∧ Below w.heap.size w W ∧ g < w.heap.size

theorem Pr2.below {w W W' : World} {g i j : Nat} {x y : Int} (s : Pr2 w g i j x y W) (k : Below W.heap.size W W') : Pr2 w g i j x y W' :=
  ⟨⟨(k.cell (p := ⟨g, i, none⟩) (Nat.lt_of_lt_of_le s.2.2 s.2.1.size)).trans s.1.1, (k.cell (p := ⟨g, j, none⟩) (Nat.lt_of_lt_of_le s.2.2 s.2.1.size)).trans s.1.2⟩, s.2.1.trans (k.mono s.2.1.size), s.2.2⟩

theorem Pr2.drew {w W : World} {g i j : Nat} {x y : Int} (s : Pr2 w g i j x y W) : Pr2 w g i j x y W.drew := s.below (by repeat (first | with_reducible exact Below.refl _ _ | with_reducible refine Below.drew ?_ | with_reducible refine Below.alloc ?_ (by first | omega | (simp <;> omega)) _ | with_reducible refine Below.setCell ?_ (by first | omega | (simp <;> omega)) _))

theorem Pr2.alloc {w W : World} {g i j : Nat} {x y : Int} (s : Pr2 w g i j x y W) (o : Obj) : Pr2 w g i j x y (W.alloc o) := s.below ((Below.refl _ _).alloc (Nat.le_refl _) _)

theorem topP_at (a W s : Nat) : ∀ (k i : Nat), i < k → (topP a W s k)[i]? = some (a / 2 ^ (W - s * (i + 1)) % 2 ^ s)
  | 0, i, h => absurd h (Nat.not_lt_zero _)
  | k + 1, i, h => by
    have l := topP_length a W s k
    unfold topP
    by_cases c : i < k
    · rw [List.getElem?_append_left (by omega)]
      exact topP_at a W s k i c
    · obtain rfl : i = k := by omega
      rw [List.getElem?_append_right (by omega), l, Nat.sub_self]
      rfl

/-- A group out of its two bytes. -/
theorem group_is (a j : Nat) (hj : j < 8) : a / 2 ^ (128 - 16 * (j + 1)) % 2 ^ 16 = 256 * (a / 2 ^ (128 - 8 * (2 * j + 1)) % 2 ^ 8) + a / 2 ^ (128 - 8 * (2 * j + 1 + 1)) % 2 ^ 8 := by
  have e1 : 128 - 8 * (2 * j + 1) = 128 - 16 * (j + 1) + 8 := by omega
  have e2 : 128 - 8 * (2 * j + 1 + 1) = 128 - 16 * (j + 1) := by omega
  rw [e1, e2, Nat.pow_add, ← Nat.div_div_eq_div_mul]
  generalize a / 2 ^ (128 - 16 * (j + 1)) = X
  omega

theorem lead_at : ∀ (l : List Nat) (t : Nat), t < lead l → l.getD t 0 = 0 ∧ t < l.length
  | [], t, h => absurd h (Nat.not_lt_zero _)
  | x :: r, 0, h => by
    unfold lead at h
    split at h
    · rename_i e
      exact ⟨by simpa using e, by simp⟩
    · omega
  | x :: r, t + 1, h => by
    unfold lead at h
    split at h
    · have ih := lead_at r t (by omega)
      exact ⟨by simpa using ih.1, by simpa using ih.2⟩
    · omega

theorem lead_end : ∀ l : List Nat, lead l < l.length → l.getD (lead l) 0 ≠ 0
  | [], h => absurd h (Nat.not_lt_zero _)
  | x :: r, h => by
    unfold lead at h ⊢
    split
    · rename_i e
      rw [if_pos e] at h
      have ih := lead_end r (by simpa using h)
      simpa using ih
    · rename_i e
      simpa using e

theorem last_at {T : ByteArray} {r : List UInt8} {x : UInt8} (h : T = ⟨(r ++ [x]).toArray⟩) : 0 < T.size ∧ ∀ hb : T.size - 1 < T.size, T[T.size - 1] = x := by
  subst h
  have sz : (⟨(r ++ [x]).toArray⟩ : ByteArray).size = r.length + 1 := by show (r ++ [x]).toArray.size = _; simp
  refine ⟨by omega, fun hb => ?_⟩
  have e : (⟨(r ++ [x]).toArray⟩ : ByteArray).size - 1 = r.length := by omega
  have k : ∀ (n : Nat) (hn : n < (⟨(r ++ [x]).toArray⟩ : ByteArray).size), n = r.length → (⟨(r ++ [x]).toArray⟩ : ByteArray)[n] = x := fun n hn q => by
    subst q
    show (r ++ [x]).toArray[r.length] = x
    simp
  exact k _ hb e

theorem bytes_eq (t : ByteArray) : t = ⟨t.data.toList.toArray⟩ := rfl

theorem drop_getD (gs : List Nat) (i t : Nat) : (gs.drop i).getD t 0 = gs.getD (i + t) 0 := by
  rw [List.getD_eq_getElem?_getD, List.getD_eq_getElem?_getD, List.getElem?_drop]

set_option maxRecDepth 100000 in
set_option maxHeartbeats 3200000 in
theorem rprint02_v6 {h l : Int} {a : Nat} (ha : IsNum h l a) (w : World) :
    Calls Tryz.prog 21 #[av true h l] w fun e w' => e = .returned (.string (prL a)) ∧ Below w.heap.size w w' := by
  obtain ⟨i0, hi, hz0, hz1, hz2⟩ := info_parts infoInt
  have RT : Hid (∀ w', Calls Tryz.prog 23 #[av true h l] w' fun e w1 => e = .returned (.bool true) ∧ Below w'.heap.size w' w1) := fun w' => rright_c (v := true) ha w'
  have BY := hide (fun w' => rbytes_16 ha w')
  have HX := hide (fun (n : Nat) (hn : n < 65536) w' => rhex_c hn w')
  have K0 : Kn w [(w.heap.size, [.bool true, .int .u64 h, .int .u64 l], 26)] (w.alloc (.cells #[.bool true, .int .u64 h, .int .u64 l] 26)) := (Kn.nil w).push rfl
  clear ha
  go_enter Tryz.func21, Tryz.ntmps21
  go_wp2_with fail
  refine (RT.out _).mono ?_
  rintro e w1 ⟨rfl, hb⟩
  have K1 := K0.below hb
  have F := K1.1
  simp only [Facts, CellsAt] at F
  clear RT hb K0
  go_wp2_with fail
  refine (BY.out _).mono ?_
  rintro e w2 ⟨sv, rfl, ho, hb⟩
  have K2 := K1.below hb
  have F2 := K2.1
  simp only [Facts, CellsAt] at F2
  obtain ⟨g, cap, hsv, gl, hc⟩ : ∃ g cap, sv = .slice (some ⟨g, 0, none⟩) 16 cap ∧ g < w2.heap.size ∧ ∀ t, t < 16 → w2.cell? ⟨g, t, none⟩ = some (.int .u8 ((a / 2 ^ (128 - 8 * (t + 1)) % 2 ^ 8 : Nat) : Int)) := by
    rcases ho.2 with ⟨_, q⟩ | ⟨g, cap, cur, q, q2, q3, _⟩
    · omega
    · have ad : ∀ i : Nat, (⟨g, 0, none⟩ : Addr).add i = ⟨g, i, none⟩ := fun i => by
        unfold Addr.add
        split <;> simp_all
      refine ⟨g, cap, q, (Array.getElem?_eq_some_iff.1 q3).1, fun t ht => ?_⟩
      have := ho.cells (g := g) (by rw [q]; rfl) t (.int .u8 ((a / 2 ^ (128 - 8 * (t + 1)) % 2 ^ 8 : Nat) : Int)) (by rw [List.getElem?_map, topP_at a 128 8 16 t ht]; rfl)
      rwa [ad] at this
  subst hsv
  have HC := hide hc
  have HB := hide K2.bel
  have OW0 : Hid ((w2.alloc (.cells #[] 3)).ownsRow w2.heap.size 3 1 (.slice (some ⟨w2.heap.size, 0, none⟩) 0 0) 0 []) := World.ownsRow_made _ _ _ (Nat.le_refl _) (Nat.zero_le _) rfl
  have B2 : Hid (Below w2.heap.size w2 (w2.alloc (.cells #[] 3))) := (Below.refl _ _).alloc (Nat.le_refl _) _
  clear BY ho hb K1 F K2 hc
  go_wp2_with fail
  go_loopw [4, 5] (fun u i wr => ∃ (j : Nat) (K : Int), j ≤ 8 ∧ i = .int .i64 K ∧ Hid (K = 2 * (j : Int)) ∧ 0 ≤ K ∧ K ≤ 16 ∧ Hid (wr.ownsRow w2.heap.size 3 1 u j ((topP a 128 16 j).map fun n : Nat => .int .i64 (n : Int))) ∧ Hid (Below w2.heap.size w2 wr)) (fun _ i _ => (16 - intOf i).toNat)
  case atStart => exact ⟨0, 0, by omega, rfl, rfl, by omega, by omega, OW0, B2⟩
  case round =>
    clear OW0 B2
    obtain ⟨j, K, hj, rfl, hK, k0, k1, O, B⟩ := hrel
    by_cases hlt : j < 8
    · have hKo := hK.out
      have kA : K < 16 := by omega
      have kB : K + 1 < 16 := by omega
      have kC : 0 ≤ K + 1 := by omega
      have kW : IntKind.i64.wrap (K + 1) = K + 1 := by simp [IntKind.wrap, IntKind.bits, IntKind.signed]; omega
      obtain ⟨x, hx⟩ : ∃ x : Int, x = ((a / 2 ^ (128 - 8 * (2 * j + 1)) % 2 ^ 8 : Nat) : Int) := ⟨_, rfl⟩
      obtain ⟨y, hy⟩ : ∃ y : Int, y = ((a / 2 ^ (128 - 8 * (2 * j + 1 + 1)) % 2 ^ 8 : Nat) : Int) := ⟨_, rfl⟩
      have xl : 0 ≤ x ∧ x < 256 := by have := Nat.mod_lt (a / 2 ^ (128 - 8 * (2 * j + 1))) (show 0 < 2 ^ 8 by decide); omega
      have yl : 0 ≤ y ∧ y < 256 := by have := Nat.mod_lt (a / 2 ^ (128 - 8 * (2 * j + 1 + 1))) (show 0 < 2 ^ 8 by decide); omega
      have S0 : Pr2 w2 g K.toNat (K + 1).toNat x y wr := ⟨⟨(B.out.cell (p := ⟨g, K.toNat, none⟩) gl).trans (by rw [hx, show K.toNat = 2 * j by omega]; exact HC.out (2 * j) (by omega)), (B.out.cell (p := ⟨g, (K + 1).toNat, none⟩) gl).trans (by rw [hy, show (K + 1).toNat = 2 * j + 1 by omega]; exact HC.out (2 * j + 1) (by omega))⟩, B.out, gl⟩
      have GX : Hid (256 * x + y = ((a / 2 ^ (128 - 16 * (j + 1)) % 2 ^ 16 : Nat) : Int)) := by
        show _ = _
        rw [group_is a j hlt, hx, hy]
        omega
      have wx : IntKind.i64.wrap x = x := by simp [IntKind.wrap, IntKind.bits, IntKind.signed]; omega
      have wy : IntKind.i64.wrap y = y := by simp [IntKind.wrap, IntKind.bits, IntKind.signed]; omega
      have wz : IntKind.i64.wrap (256 * x) = 256 * x := by simp [IntKind.wrap, IntKind.bits, IntKind.signed]; omega
      have wt : IntKind.i64.wrap (256 * x + y) = 256 * x + y := by simp [IntKind.wrap, IntKind.bits, IntKind.signed]; omega
      have z16 : IntKind.i64.wrap (K + 2) = K + 2 := by simp [IntKind.wrap, IntKind.bits, IntKind.signed]; omega
      have hs := hide B.out.size
      obtain ⟨sv, hsv⟩ : ∃ sv, sv = u4 := ⟨_, rfl⟩
      subst hsv
      have N4 := one_new wr (.int .i64 (256 * x + y)) 3
      have GR : Hid (∀ (v' : Value) (w5 : World), w5.ownsRow w2.heap.size 3 1 v' (j + 1) ((topP a 128 16 j).map (fun n : Nat => Value.int .i64 (n : Int)) ++ [.int .i64 (256 * x + y)]) → (wr.alloc (.cells #[.int .i64 (256 * x + y)] 3)).grownBy w5 sv.ownBlock → Pr2 w2 g K.toNat (K + 1).toNat x y w5 ∧ w5.ownsRow w2.heap.size 3 1 v' (j + 1) ((topP a 128 16 (j + 1)).map fun n : Nat => .int .i64 (n : Int)) ∧ Below w2.heap.size w2 w5) := fun v' w5 h1 h2 => by
        have b5 : Below w2.heap.size w2 w5 := below_grown B.out hs.out O.out h2
        refine ⟨⟨⟨(b5.cell (p := ⟨g, K.toNat, none⟩) gl).trans ((B.out.cell (p := ⟨g, K.toNat, none⟩) gl).symm.trans S0.1.1), (b5.cell (p := ⟨g, (K + 1).toNat, none⟩) gl).trans ((B.out.cell (p := ⟨g, (K + 1).toNat, none⟩) gl).symm.trans S0.1.2)⟩, b5, gl⟩, ?_, b5⟩
        have e : topP a 128 16 (j + 1) = topP a 128 16 j ++ [a / 2 ^ (128 - 16 * (j + 1)) % 2 ^ 16] := rfl
        rw [e, List.map_append, List.map_cons, List.map_nil, ← GX.out]
        exact h1
      clear hx hy hKo
      go_upto_region 10 with fail
      refine wp_region_held_drew (S := (Pr2 w2 g K.toNat (K + 1).toNat x y)) (by kernel_rfl) ?hS5001 (fun hHeld => ?rest5001)
      case hS5001 => (first | with_reducible exact S0.drew | with_reducible exact (S0.alloc _).drew | with_reducible exact KQ5 | with_reducible exact hHeld | exact hHeld.alloc _)
      refine wpAnyH_take (i := 0) (oi := _) (v := ?v5002) (List.getElem?_toArray.trans rfl) (by kernel_rfl) (by kernel_rfl) (by kernel_rfl) (fun _ _ _ h => h) (Or.inl ⟨by rfl, ?hy5002⟩) (by assumption) ?rest5002
      case hy5002 => (intro wq hSw; (try simp only [Two, Pr2] at hSw); go_simp; try with_reducible rfl)
      try simp only [Act.put, List.setIfInBounds_toArray, List.set_cons_zero, List.set_cons_succ]
      refine wpAnyH_take (i := 1) (oi := _) (v := ?v5003) (List.getElem?_toArray.trans rfl) (by kernel_rfl) (by kernel_rfl) (by kernel_rfl) (fun _ _ _ h => h) (Or.inl ⟨by rfl, ?hy5003⟩) (by assumption) ?rest5003
      case hy5003 => (intro wq hSw; (try simp only [Two, Pr2] at hSw); go_simp; try with_reducible rfl)
      try simp only [Act.put, List.setIfInBounds_toArray, List.set_cons_zero, List.set_cons_succ]
      refine wpAnyH_take (i := 2) (oi := _) (v := ?v5004) (List.getElem?_toArray.trans rfl) (by kernel_rfl) (by kernel_rfl) (by kernel_rfl) (fun _ _ _ h => h) (Or.inl ⟨by rfl, ?hy5004⟩) (by assumption) ?rest5004
      case hy5004 => (intro wq hSw; (try simp only [Two, Pr2] at hSw); go_simp; try with_reducible rfl)
      try simp only [Act.put, List.setIfInBounds_toArray, List.set_cons_zero, List.set_cons_succ]
      refine wpAnyH_take (i := 3) (oi := _) (v := ?v5005) (List.getElem?_toArray.trans rfl) (by kernel_rfl) (by kernel_rfl) (by kernel_rfl) (fun _ _ _ h => h) (Or.inl ⟨by rfl, ?hy5005⟩) (by assumption) ?rest5005
      case hy5005 => (intro wq hSw; (try simp only [Two, Pr2] at hSw); go_simp; try with_reducible rfl)
      try simp only [Act.put, List.setIfInBounds_toArray, List.set_cons_zero, List.set_cons_succ]
      refine wpAnyH_take (i := 4) (oi := _) (v := ?v5006) (List.getElem?_toArray.trans rfl) (by kernel_rfl) (by kernel_rfl) (by kernel_rfl) (fun _ _ _ h => h) (Or.inl ⟨by rfl, ?hy5006⟩) (by assumption) ?rest5006
      case hy5006 => (intro wq hSw; (try simp only [Two, Pr2] at hSw); go_simp; try with_reducible rfl)
      try simp only [Act.put, List.setIfInBounds_toArray, List.set_cons_zero, List.set_cons_succ]
      refine wpAnyH_take (i := 5) (oi := _) (v := ?v5007) (List.getElem?_toArray.trans rfl) (by kernel_rfl) (by kernel_rfl) (by kernel_rfl) (fun _ _ _ h => h) (Or.inl ⟨by rfl, ?hy5007⟩) (by assumption) ?rest5007
      case hy5007 => (intro wq hSw; (try simp only [Two, Pr2] at hSw); go_simp; try with_reducible rfl)
      try simp only [Act.put, List.setIfInBounds_toArray, List.set_cons_zero, List.set_cons_succ]
      refine wpAnyH_take (i := 6) (oi := _) (v := ?v5008) (List.getElem?_toArray.trans rfl) (by kernel_rfl) (by kernel_rfl) (by kernel_rfl) (fun _ _ _ h => h) (Or.inl ⟨by rfl, ?hy5008⟩) (by assumption) ?rest5008
      case hy5008 => (intro wq hSw; (try simp only [Two, Pr2] at hSw); go_simp; try with_reducible rfl)
      try simp only [Act.put, List.setIfInBounds_toArray, List.set_cons_zero, List.set_cons_succ]
      refine wpAnyH_take (i := 7) (oi := _) (v := ?v5009) (List.getElem?_toArray.trans rfl) (by kernel_rfl) (by kernel_rfl) (by kernel_rfl) (fun _ _ _ h => h) (Or.inl ⟨by rfl, ?hy5009⟩) (by assumption) ?rest5009
      case hy5009 => (intro wq hSw; (try simp only [Two, Pr2] at hSw); go_simp; try with_reducible rfl)
      try simp only [Act.put, List.setIfInBounds_toArray, List.set_cons_zero, List.set_cons_succ]
      refine wpAnyH_take (i := 8) (oi := _) (v := ?v5010) (List.getElem?_toArray.trans rfl) (by kernel_rfl) (by kernel_rfl) (by kernel_rfl) (fun _ _ _ h => h) (Or.inl ⟨by rfl, ?hy5010⟩) (by assumption) ?rest5010
      case hy5010 => (intro wq hSw; (try simp only [Two, Pr2] at hSw); go_simp; try with_reducible rfl)
      try simp only [Act.put, List.setIfInBounds_toArray, List.set_cons_zero, List.set_cons_succ]
      refine wpAnyH_take (i := 9) (oi := _) (v := ?v5011) (List.getElem?_toArray.trans rfl) (by kernel_rfl) (by kernel_rfl) (by kernel_rfl) (fun _ _ _ h => h) (Or.inl ⟨by rfl, ?hy5011⟩) (by assumption) ?rest5011
      case hy5011 => (intro wq hSw; (try simp only [Two, Pr2] at hSw); go_simp; try with_reducible rfl)
      try simp only [Act.put, List.setIfInBounds_toArray, List.set_cons_zero, List.set_cons_succ]
      refine wpAnyH_take (i := 10) (oi := _) (v := ?v5012) (List.getElem?_toArray.trans rfl) (by kernel_rfl) (by kernel_rfl) (by kernel_rfl) (fun _ _ _ h => h) (Or.inl ⟨by rfl, ?hy5012⟩) (by assumption) ?rest5012
      case hy5012 => (intro wq hSw; (try simp only [Two, Pr2] at hSw); go_simp; try with_reducible rfl)
      try simp only [Act.put, List.setIfInBounds_toArray, List.set_cons_zero, List.set_cons_succ]
      refine wpAnyH_take (i := 11) (oi := _) (v := ?v5013) (List.getElem?_toArray.trans rfl) (by kernel_rfl) (by kernel_rfl) (by kernel_rfl) (fun _ _ _ h => h) (Or.inl ⟨by rfl, ?hy5013⟩) (by assumption) ?rest5013
      case hy5013 => (intro wq hSw; (try simp only [Two, Pr2] at hSw); go_simp; try with_reducible rfl)
      try simp only [Act.put, List.setIfInBounds_toArray, List.set_cons_zero, List.set_cons_succ]
      refine wpAnyH_take (i := 12) (oi := _) (v := ?v5014) (List.getElem?_toArray.trans rfl) (by kernel_rfl) (by kernel_rfl) (by kernel_rfl) (fun _ _ _ h => h) (Or.inl ⟨by rfl, ?hy5014⟩) (by assumption) ?rest5014
      case hy5014 => (intro wq hSw; (try simp only [Two, Pr2] at hSw); go_simp; try with_reducible rfl)
      try simp only [Act.put, List.setIfInBounds_toArray, List.set_cons_zero, List.set_cons_succ]
      refine wpAnyH_take (i := 13) (oi := _) (v := ?v5015) (List.getElem?_toArray.trans rfl) (by kernel_rfl) (by kernel_rfl) (by kernel_rfl) (fun _ _ _ h => h) (Or.inl ⟨by rfl, ?hy5015⟩) (by assumption) ?rest5015
      case hy5015 => (intro wq hSw; (try simp only [Two, Pr2] at hSw); go_simp; try with_reducible rfl)
      try simp only [Act.put, List.setIfInBounds_toArray, List.set_cons_zero, List.set_cons_succ]
      refine wpAnyH_ready (rs := [14]) (by kernel_rfl) (by simp) ?rdy5016
      refine (AllReadyH.cons (List.getElem?_toArray.trans rfl) (fun K hK => ?stp5016_14) AllReadyH.nil)
      case stp5016_14 =>
        go_simp
        go_wp2_with fail
        refine hK.out _ _ ?hSn5017 (fun hHeld2 => ?rest5017)
        case hSn5017 => (first | with_reducible exact S0.drew | with_reducible exact (S0.alloc _).drew | with_reducible exact KQ5 | with_reducible exact hHeld | exact hHeld.alloc _)
        clear hK K hHeld
        have hHeld := hHeld2
        clear hHeld2
        try simp only [Act.put, List.setIfInBounds_toArray, List.set_cons_zero, List.set_cons_succ]
        refine wpAnyH_ready (rs := [15]) (by kernel_rfl) (by simp) ?rdy5018
        refine (AllReadyH.cons (List.getElem?_toArray.trans rfl) (fun K hK => ?stp5018_15) AllReadyH.nil)
        case stp5018_15 =>
          (refine step_own7 rfl (.tmp 51) (.tmp 65) 69 rfl w2.heap.size 3 i0 (.int .i64 0) 1 8 Tryz.underlying69 hi hz0 hz1 hz2 rfl (by decide) sv j _ rfl (O.out.alloc _).drew ⟨wr.heap.size, 0, none⟩ 1 1 [.int .i64 (256 * x + y)] rfl rfl N4 (one_ok _ _) (by unfold maxLen; omega) (by omega) (by have := hs.out; simp; omega) ?_; intro v' w5 hown hgrow; obtain ⟨KQ5, O5, B5⟩ := GR.out v' w5 hown ⟨hgrow.os, hgrow.tape, hgrow.output, hgrow.size, hgrow.block⟩; have O6 := hide O5; have B6 := hide B5; clear O5 B5 hown hgrow)
          refine hK.out _ _ ?hSn5019 (fun hHeld2 => ?rest5019)
          case hSn5019 => (first | with_reducible exact S0.drew | with_reducible exact (S0.alloc _).drew | with_reducible exact KQ5 | with_reducible exact hHeld | exact hHeld.alloc _)
          clear hK K hHeld
          have hHeld := hHeld2
          clear hHeld2
          try simp only [Act.put, List.setIfInBounds_toArray, List.set_cons_zero, List.set_cons_succ]
          refine wpAnyH_ready (rs := [16]) (by kernel_rfl) (by simp) ?rdy5020
          refine (AllReadyH.cons (List.getElem?_toArray.trans rfl) (fun K hK => ?stp5020_16) AllReadyH.nil)
          case stp5020_16 =>
            go_simp
            go_wp2_with fail
            refine hK.out _ _ ?hSn5021 (fun hHeld2 => ?rest5021)
            case hSn5021 => (first | with_reducible exact S0.drew | with_reducible exact (S0.alloc _).drew | with_reducible exact KQ5 | with_reducible exact hHeld | exact hHeld.alloc _)
            clear hK K hHeld
            have hHeld := hHeld2
            clear hHeld2
            try simp only [Act.put, List.setIfInBounds_toArray, List.set_cons_zero, List.set_cons_succ]
            refine wpAnyH_done (by kernel_rfl) ?_ _
            go_wp2
            go_roundw
            case rel => exact ⟨j + 1, K + 2, by omega, by go_num, (by have := hK.out; show K + 2 = 2 * ((j + 1 : Nat) : Int); omega), by omega, by omega, O6, B6⟩
            case measure => (simp [intOf]; omega)
    · obtain rfl : j = 8 := by omega
      have kE : ¬ K < 16 := by have := hK.out; omega
      have GL := topP_length a 128 16 8
      have GT : Hid (∀ n ∈ topP a 128 16 8, n < 65536) := topP_lt a 128 16 (by decide) 8
      have PL := hide (prL_is a GL)
      have OO := O.out
      have BB := B.out
      clear O B HC
      obtain ⟨gs, hgs⟩ : ∃ gs, gs = topP a 128 16 8 := ⟨_, rfl⟩
      rw [← hgs] at GL GT PL OO
      clear hgs
      obtain ⟨g2, cap2, hsv, g2l, hc⟩ : ∃ g2 cap2, u4 = .slice (some ⟨g2, 0, none⟩) 8 cap2 ∧ g2 < wr.heap.size ∧ ∀ t, t < 8 → wr.cell? ⟨g2, t, none⟩ = some (.int .i64 ((gs.getD t 0 : Nat) : Int)) := by
        rcases OO.2 with ⟨_, q⟩ | ⟨g, cap, cur, q, q2, q3, _⟩
        · omega
        · have ad : ∀ i : Nat, (⟨g, 0, none⟩ : Addr).add i = ⟨g, i, none⟩ := fun i => by
            unfold Addr.add
            split <;> simp_all
          refine ⟨g, cap, q, (Array.getElem?_eq_some_iff.1 q3).1, fun t ht => ?_⟩
          have := OO.cells (g := g) (by rw [q]; rfl) t (.int .i64 ((gs.getD t 0 : Nat) : Int)) (by rw [List.getElem?_map, List.getD_eq_getElem?_getD, List.getElem?_eq_getElem (by omega)]; rfl)
          rwa [ad] at this
      subst hsv
      obtain ⟨wa, hwa⟩ : ∃ wa, wa = wr := ⟨_, rfl⟩
      subst hwa
      have HC := hide hc
      have BW := hide (HB.out.trans (BB.mono HB.out.size))
      have BE := hide (best_le gs)
      have LG := hide GL
      clear hc OO BB HB hK gl F2 k0 k1 hj hlt
      go_wp2_with fail
      go_loop [6, 7, 8] (fun fv mv iv => ∃ (i f m : Nat), i ≤ 8 ∧ iv = .int .i64 i ∧ fv = .int .i64 f ∧ mv = .int .i64 m ∧ f ≤ 8 ∧ m ≤ 8 ∧ Hid (bestR gs i = (f, m))) (fun _ _ iv => 8 - (intOf iv).toNat)
      case atStart => exact ⟨0, 0, 0, by omega, rfl, rfl, rfl, by omega, by omega, rfl⟩
      case round =>
        obtain ⟨i, f, m, hi8, rfl, rfl, rfl, f8, m8, HF⟩ := hrel
        by_cases hlt : i < 8
        · have hlt' : (i : Int) < 8 := by omega
          have ld := hide (lead_le (gs.drop i))
          go_wp2_with fail
          go_loop [9] (fun nv => ∃ t : Nat, nv = .int .i64 t ∧ t ≤ 8 ∧ Hid (t ≤ lead (gs.drop i))) (fun nv => 8 - (intOf nv).toNat)
          case atStart => exact ⟨0, rfl, by omega, Nat.zero_le _⟩
          case round =>
            obtain ⟨t, rfl, ht8, ht⟩ := hrel
            by_cases c : t < lead (gs.drop i)
            · have ca := lead_at _ _ c
              have hL := LG.out
              rw [drop_getD, List.length_drop, hL] at ca
              have c1 : i + t < 8 := by omega
              have c2 : (i : Int) + (t : Int) < 8 := by omega
              have wt : IntKind.i64.wrap ((i : Int) + (t : Int)) = (i : Int) + (t : Int) := by simp [IntKind.wrap, IntKind.bits, IntKind.signed]; omega
              have w1t : IntKind.i64.wrap ((t : Int) + 1) = (t : Int) + 1 := by simp [IntKind.wrap, IntKind.bits, IntKind.signed]; omega
              have cl := HC.out (i + t) c1
              rw [ca.1] at cl
              have cl2 : wa.cell? ⟨g2, ((i : Int) + (t : Int)).toNat, none⟩ = some (.int .i64 0) := cl
              have HT : Hid (t + 1 ≤ lead (gs.drop i)) := c
              clear c ca hL
              go_wp2
              go_round
              case rel => exact ⟨t + 1, by go_num, by omega, HT⟩
              case measure => simp [intOf]; omega
            · have ht' : t = lead (gs.drop i) := Nat.le_antisymm ht.out (Nat.not_lt.1 c)
              have hL := LG.out
              have lt : t ≤ 8 - i := by
                have := ld.out
                rw [List.length_drop, hL, ← ht'] at this
                exact this
              have NB : Hid (bestR gs (i + 1) = if m < t then (i, t) else (f, m)) := by
                show bestR gs (i + 1) = _
                unfold bestR
                rw [HF.out, ← ht']
              have wt : IntKind.i64.wrap ((i : Int) + (t : Int)) = (i : Int) + (t : Int) := by simp [IntKind.wrap, IntKind.bits, IntKind.signed]; omega
              have w1t : IntKind.i64.wrap ((i : Int) + 1) = (i : Int) + 1 := by simp [IntKind.wrap, IntKind.bits, IntKind.signed]; omega
              have cs : Hid ((¬ ((i : Int) + (t : Int) < 8)) ∨ ((i : Int) + (t : Int) < 8 ∧ ∃ G : Int, (G == 0) = false ∧ wa.cell? ⟨g2, i + t, none⟩ = some (.int .i64 G) ∧ wa.cell? ⟨g2, ((i : Int) + (t : Int)).toNat, none⟩ = some (.int .i64 G))) := by
                by_cases d : i + t < 8
                · have ne := lead_end (gs.drop i) (by rw [List.length_drop, hL, ← ht']; omega)
                  rw [← ht', drop_getD] at ne
                  exact Or.inr ⟨by omega, _, by simpa using ne, HC.out _ d, HC.out _ d⟩
                · exact Or.inl (by omega)
              clear ht' hL c ht ld HF
              by_cases d : m < t
              · have NC : Hid (bestR gs (i + 1) = (i, t)) := by have := NB.out; rwa [if_pos d] at this
                have d' : (t : Int) > (m : Int) := by omega
                clear NB d
                rcases cs.out with e1 | ⟨e1, G, e2, e3, e4⟩
                all_goals
                  clear cs
                  go_wp2
                  go_round
                  case rel => exact ⟨i + 1, i, t, by omega, by go_num, rfl, rfl, by omega, by omega, NC⟩
                  case measure => simp [intOf]; omega
              · have NC : Hid (bestR gs (i + 1) = (f, m)) := by have := NB.out; rwa [if_neg d] at this
                have d' : ¬ (t : Int) > (m : Int) := by omega
                clear NB d
                rcases cs.out with e1 | ⟨e1, G, e2, e3, e4⟩
                all_goals
                  clear cs
                  go_wp2
                  go_round
                  case rel => exact ⟨i + 1, f, m, by omega, by go_num, rfl, rfl, by omega, by omega, NC⟩
                  case measure => simp [intOf]; omega
        · obtain rfl : i = 8 := by omega
          have PL2 : Hid (prL a = ⟨(pr6 gs f m 8).toArray⟩) := by have := PL.out; rwa [HF.out] at this
          have fm : f + m ≤ 8 ∧ f < 8 := by
            have := BE.out 8 (by rw [GL]; omega)
            rw [HF.out, GL] at this
            exact ⟨this.1, by have := this.2; omega⟩
          have SZ := hide (pr6_size gs GT.out (by rw [GL]; omega) f m)
          have ST : Hid (∀ i, i < 8 → (m < 2 ∨ i < f ∨ f + m ≤ i) → More (pr6 gs f m i) (hexT (gs.getD i 0)).data.toList (pr6 gs f m (i + 1))) := fun i hi h => pr6_step gs f m i (by rw [GL]; exact hi) h
          have SK : Hid (2 ≤ m → pr6 gs f m (f + m) = pr6 gs f m f ++ [58, 58]) := fun h => pr6_skip gs f m h (by rw [GL]; exact fm.1)
          have SL : Hid (∀ i, i < 8 → gs.getD i 0 < 65536) := fun i hi => GT.out _ (by rw [List.getD_eq_getElem?_getD, List.getElem?_eq_getElem (by rw [GL]; exact hi)]; exact List.getElem_mem _)
          have Z0 := hide (pr6_zero gs f m)
          have B0 : Hid (Below wa.heap.size wa wa) := Below.refl _ _
          clear PL GT BE HF LG hlt hi8 GL
          go_wp2_with fail
          go_loopw [10, 11] (fun sv iv wc => ∃ (i : Nat) (T : ByteArray), i ≤ 8 ∧ iv = .int .i64 i ∧ sv = .string T ∧ Hid (T = ⟨(pr6 gs f m i).toArray⟩) ∧ Hid (m < 2 ∨ i ≤ f ∨ f + m ≤ i) ∧ Hid (Below wa.heap.size wa wc)) (fun _ iv _ => 8 - (intOf iv).toNat)
          case atStart => exact ⟨0, _, by omega, rfl, rfl, by rw [Z0.out]; rfl, Or.inr (Or.inl (Nat.zero_le _)), B0⟩
          case round =>
            obtain ⟨i, T, hi8, rfl, rfl, HT, HP, B⟩ := hrel
            have ts : T.size ≤ 2000 := by have := SZ.out i; rw [HT.out]; exact this
            by_cases hlt : i < 8
            · have hlt' : (i : Int) < 8 := by omega
              by_cases c : 2 ≤ m ∧ i = f
              · have c2 : (m : Int) ≥ 2 := by omega
                have c3 : ((i : Int) == (f : Int)) = true := by simp; omega
                have NT : Hid (T ++ ⟨#[58, 58]⟩ = ⟨(pr6 gs f m (i + m)).toArray⟩) := by
                  show _ = _
                  rw [HT.out, show (⟨#[58, 58]⟩ : ByteArray) = ⟨([58, 58] : List UInt8).toArray⟩ from rfl, bytes_app, c.2, SK.out c.1]
                have NP : Hid (m < 2 ∨ i + m ≤ f ∨ f + m ≤ i + m) := Or.inr (Or.inr (by omega))
                have im : i + m ≤ 8 := by omega
                have m2 : 2 ≤ m := c.1
                have wa1 : IntKind.i64.wrap ((i : Int) + (m : Int)) = (i : Int) + (m : Int) := by simp [IntKind.wrap, IntKind.bits, IntKind.signed]; omega
                have wa2 : IntKind.i64.wrap ((i : Int) + (m : Int) - 1) = (i : Int) + (m : Int) - 1 := by simp [IntKind.wrap, IntKind.bits, IntKind.signed]; omega
                have wa3 : IntKind.i64.wrap ((i : Int) + (m : Int) - 1 + 1) = (i : Int) + (m : Int) := by simp [IntKind.wrap, IntKind.bits, IntKind.signed]; omega
                clear HT HP c
                go_wp2
                go_roundw
                case rel => exact ⟨i + m, T ++ ⟨#[58, 58]⟩, by omega, by go_num, rfl, NT, NP, B⟩
                case measure => simp [intOf]; omega
              · have gd : Hid (¬ (m : Int) ≥ 2 ∨ ((m : Int) ≥ 2 ∧ ((i : Int) == (f : Int)) = false)) := by
                  by_cases d : 2 ≤ m
                  · exact Or.inr ⟨by omega, by simp; omega⟩
                  · exact Or.inl (by omega)
                have NP : Hid (m < 2 ∨ i + 1 ≤ f ∨ f + m ≤ i + 1) := by
                  show _ ∨ _
                  have := HP.out
                  omega
                have MO := hide (ST.out i hlt (by have := HP.out; omega))
                clear HP c
                have HXi := hide (HX.out (gs.getD i 0) (SL.out i hlt))
                obtain ⟨G, hG⟩ : ∃ G, gs.getD i 0 = G := ⟨_, rfl⟩
                have ci : Hid (∀ W, Below wa.heap.size wa W → W.cell? ⟨g2, i, none⟩ = some (.int .i64 (G : Int))) := fun W hb => (hb.cell (p := ⟨g2, i, none⟩) g2l).trans (by rw [← hG]; exact HC.out i hlt)
                rw [hG] at MO HXi
                have Gl : G < 65536 := hG ▸ SL.out i hlt
                clear hG
                have cw := ci.out _ B.out
                have hxs : (hexT G).size ≤ 100 := by
                  have := txtP_size (b := 16) (n := G) Gl
                  unfold txtP at this
                  rwa [if_neg (by decide)] at this
                have wi : IntKind.i64.wrap ((i : Int) + 1) = (i : Int) + 1 := by simp [IntKind.wrap, IntKind.bits, IntKind.signed]; omega
                rcases MO.out with ⟨m1, m2⟩ | ⟨r, m1, m2⟩ | ⟨⟨r, x, m1, mx⟩, m2⟩
                · have NT : Hid ((⟨#[]⟩ : ByteArray) ++ hexT G = ⟨(pr6 gs f m (i + 1)).toArray⟩) := by
                    show _ = _
                    rw [m2, bytes_eq (hexT G), show (⟨#[]⟩ : ByteArray) = ⟨([] : List UInt8).toArray⟩ from rfl, bytes_app]
                    rfl
                  obtain rfl : T = ⟨#[]⟩ := by rw [HT.out, m1]
                  clear m1 m2 HT MO
                  rcases gd.out with c1 | ⟨c1, c2⟩
                  all_goals
                    clear gd
                    go_wp2_with fail
                    refine (HXi.out _).mono ?_
                    rintro e w5 ⟨rfl, hb5⟩
                    have B5 := hide (B.out.trans (hb5.mono B.out.size))
                    clear hb5 ci cw
                    go_wp2
                    go_roundw
                    case rel => exact ⟨i + 1, _, by omega, by go_num, rfl, NT, NP, B5⟩
                    case measure => simp [intOf]; omega
                · have lt := last_at (HT.out.trans (by rw [m1]))
                  have NT : Hid (T ++ hexT G = ⟨(pr6 gs f m (i + 1)).toArray⟩) := by
                    show _ = _
                    rw [m2, bytes_eq (hexT G), HT.out, bytes_app]
                  have ne : (T.toList == []) = false := str_ne (fun d => by have := lt.1; rw [d] at this; exact absurd this (by decide))
                  have hb : T.size - 1 < T.size := by have := lt.1; omega
                  have bg : (((T[T.size - 1]'hb).toNat : Int) != 58) = false := by rw [lt.2 hb]; rfl
                  have s0 : 1 ≤ (T.size : Int) := by have := lt.1; omega
                  clear m1 m2 HT MO lt
                  rcases gd.out with c1 | ⟨c1, c2⟩
                  all_goals
                    clear gd
                    go_wp2_with fail
                    refine (HXi.out _).mono ?_
                    rintro e w5 ⟨rfl, hb5⟩
                    have B5 := hide (B.out.trans (hb5.mono B.out.size))
                    clear hb5 ci cw
                    go_wp2
                    go_roundw
                    case rel => exact ⟨i + 1, _, by omega, by go_num, rfl, NT, NP, B5⟩
                    case measure => simp [intOf]; omega
                · have lt := last_at (HT.out.trans (by rw [m1]))
                  have NT : Hid (T ++ ⟨#[58]⟩ ++ hexT G = ⟨(pr6 gs f m (i + 1)).toArray⟩) := by
                    show _ = _
                    rw [m2, bytes_eq (hexT G), HT.out, show (⟨#[58]⟩ : ByteArray) = ⟨([58] : List UInt8).toArray⟩ from rfl, bytes_app, bytes_app]
                  have ne : (T.toList == []) = false := str_ne (fun d => by have := lt.1; rw [d] at this; exact absurd this (by decide))
                  have hb : T.size - 1 < T.size := by have := lt.1; omega
                  have bg : (((T[T.size - 1]'hb).toNat : Int) != 58) = true := by
                    rw [lt.2 hb]
                    have : x.toNat ≠ 58 := fun d => mx (UInt8.toNat_inj.1 d)
                    simp
                    omega
                  have s0 : 1 ≤ (T.size : Int) := by have := lt.1; omega
                  clear m1 m2 HT MO lt
                  rcases gd.out with c1 | ⟨c1, c2⟩
                  all_goals
                    clear gd
                    go_wp2_with fail
                    refine (HXi.out _).mono ?_
                    rintro e w5 ⟨rfl, hb5⟩
                    have B5 := hide (B.out.trans (hb5.mono B.out.size))
                    clear hb5 ci cw
                    go_wp2
                    go_roundw
                    case rel => exact ⟨i + 1, _, by omega, by go_num, rfl, NT, NP, B5⟩
                    case measure => simp [intOf]; omega
            · obtain rfl : i = 8 := by omega
              have RES : Hid (T = prL a) := by show _ = _; rw [PL2.out, HT.out]
              have BZ := BW.out.trans (B.out.mono BW.out.size)
              clear HT HP B SZ ST SK SL Z0 HC HX
              go_wp2
              go_ret
              exact ⟨by rw [← RES.out]; rfl, BZ⟩
end Go.Proofs.YtipjmmhlfmahbaaGreatDoor

namespace Go.Proofs.YtipjmmhlfmahbaaGreatDoor
open Go.ChangeShapes Go.WideShapes Go.ChangeAt Go.RowKit
set_option linter.unusedVariables false
set_option linter.unusedSimpArgs false

set_option maxHeartbeats 800000 in
theorem rprint02_no {v : Bool} {h l : Int} {a : Nat} (ha : IsNum h l a) (hok : okA v a = false) (w : World) :
    Calls Tryz.prog 21 #[av v h l] w fun e w' => e = .returned (.string (prA v a)) ∧ Below w.heap.size w w' := by
  have RT : Hid (∀ w', Calls Tryz.prog 23 #[av v h l] w' fun e w1 => e = .returned (.bool false) ∧ Below w'.heap.size w' w1) := fun w' => hok ▸ rright_c ha w'
  have PA : Hid (prA v a = ⟨#[]⟩) := by show _ = _; unfold prA; rw [if_neg (by rw [hok]; simp)]
  have K0 : Kn w [(w.heap.size, [.bool v, .int .u64 h, .int .u64 l], 26)] (w.alloc (.cells #[.bool v, .int .u64 h, .int .u64 l] 26)) := (Kn.nil w).push rfl
  clear ha hok
  go_enter Tryz.func21, Tryz.ntmps21
  go_wp2_with fail
  refine (RT.out _).mono ?_
  rintro e w1 ⟨rfl, hb⟩
  have B := (K0.below hb).bel
  clear RT hb K0
  go_wp2
  go_ret
  exact ⟨by rw [PA.out]; rfl, B⟩

theorem rprint02_c {v : Bool} {h l : Int} {a : Nat} (ha : IsNum h l a) (w : World) :
    Calls Tryz.prog 21 #[av v h l] w fun e w' => e = .returned (.string (prA v a)) ∧ Below w.heap.size w w' := by
  by_cases ok : okA v a = true
  · cases v
    · have e : prA false a = prS a := by unfold prA; rw [if_pos ok, if_neg (by decide)]
      rw [e]
      exact rprint02_v4 ha ok w
    · have e : prA true a = prL a := by unfold prA; rw [if_pos ok, if_pos rfl]
      rw [e]
      exact rprint02_v6 ha w
  · exact rprint02_no ha (Bool.eq_false_iff.2 ok) w
end Go.Proofs.YtipjmmhlfmahbaaGreatDoor
