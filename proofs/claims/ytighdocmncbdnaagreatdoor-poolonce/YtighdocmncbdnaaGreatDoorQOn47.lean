/-
  Texts Po8, PoU, PoO of the proof.
-/
import Derived.Lib.Itoa
import Derived.Test.YtighdocmncbdnaaGreatDoorQOn25
import Derived.Test.YtighdocmncbdnaaGreatDoorQOn46
import Derived.Test.YtighdocmncbdnaaGreatDoorQOn21
import Derived.Test.YtighdocmncbdnaaGreatDoorQOn45

namespace Go.Proofs.YtighdocmncbdnaaGreatDoor
open Go.ChangeShapes Go.WideShapes Go.ChangeAt Go.RowKit
set_option linter.unusedVariables false
set_option linter.unusedSimpArgs false

/-- What is used, without the first k of those that are kept. -/
def dK (f : Nat → Bool) (lk : Bool) (N k : Nat) : Nat → Bool := fun p => f p && !decide (p ∈ (kpL lk N).take k)

theorem dK_zero {f : Nat → Bool} {lk : Bool} {N : Nat} : dK f lk N 0 = f := by
  funext p
  simp [dK]

theorem dK_full {f : Nat → Bool} {lk : Bool} {N k : Nat} (h0 : 0 < N) (hk : (kpL lk N).length ≤ k) : dK f lk N k = fun p => f p && !kpF lk N p := by
  funext p
  rw [← kp_mem h0]
  unfold dK
  rw [List.take_of_length_le hk]

theorem dK_get {f : Nat → Bool} {lk : Bool} {N k i : Nat} (h0 : 0 < N) (hi : (kpL lk N)[k]? = some i) : dK f lk N (k + 1) = dropF N (dK f lk N k) i := by
  have e : dropF N (dK f lk N k) (i : Int) = upd (dK f lk N k) i false := by
    have : i < N := by
      have hm := List.mem_of_getElem? hi
      have : kpF lk N i = true := by rw [← kp_mem h0]; exact decide_eq_true hm
      unfold kpF at this
      simp at this
      omega
    unfold dropF
    rw [if_pos (by omega), Int.toNat_natCast]
  rw [e]
  funext p
  have ht : (kpL lk N).take (k + 1) = (kpL lk N).take k ++ [i] := by rw [List.take_add_one, hi]; rfl
  unfold upd dK
  rw [ht]
  by_cases c : p = i
  · subst c; simp
  · simp [c]

set_option maxRecDepth 100000 in
set_option maxHeartbeats 3200000 in
theorem used_c {v : Bool} {h l b : Int} {x a g n : Nat} {f : Nat → Bool} (hp : IsNum h l n) (h0 : 0 < szP v n b) (w : World) (P0 : PoAt w v h l b x a g (szP v n b) f) :
    Calls Tryz.prog 71 #[.pointer (some ⟨x, 0, none⟩)] w fun e w' => ∃ a' g', e = .returned (.pointer (some ⟨a', 0, none⟩)) ∧ MapB w' a' g' (szP v n b) (fun p => f p && !kpF (lkP v b) (szP v n b) p) ∧ Below w.heap.size w w' ∧ w.heap.size ≤ a' ∧ w.heap.size ≤ g' := by
  have KE := fun w' P' => kept_c (v := v) (b := b) (x := x) (a := a) (g := g) (f := f) hp h0 w' P'
  obtain ⟨N, hN⟩ : ∃ N, szP v n b = N := ⟨_, rfl⟩
  obtain ⟨lk, hlk⟩ : ∃ lk, lkP v b = lk := ⟨_, rfl⟩
  rw [hN] at KE P0 h0 ⊢
  rw [hlk] at KE ⊢
  have KH := hide KE
  obtain ⟨x0, x1, x2, x3, x4, xl⟩ := P0.hd.five
  have CC := hide (copy_ok a g N f w P0.m)
  have PH := hide P0
  clear KE P0 hp hN hlk
  go_enter Tryz.func71, Tryz.ntmps71
  go_wp2_with fail
  refine CC.out.mono ?_
  rintro e w1 ⟨rfl, hM, hb, hs⟩
  have P1 := PH.out.below hb
  have KP := hide (KH.out w1 P1)
  have M1 := hide hM
  have B1 := hide hb
  clear CC hM hb hs KH PH P1 x0 x1 x2 x3 x4
  go_wp2_with fail
  refine KP.out.mono ?_
  rintro e w2 ⟨k, rfl, hk, hkl, hb⟩
  have l4 := M1.out.lt
  have M2 : Hid (MapB w2 (w.heap.size + 1) w.heap.size N (dK f lk N 0)) := by rw [dK_zero]; exact M1.out.below hb
  have B2 : Hid (Below w.heap.size w w2) := B1.out.trans (hb.mono B1.out.size)
  have K2 := hide hk
  have kg : k ∉ [w.heap.size] := by simp; omega
  obtain ⟨L, hL⟩ : ∃ L, (kpL lk N).length = L := ⟨_, rfl⟩
  have L2 : L ≤ 2 := hL ▸ kpL_len lk N
  have HL := hide hL
  rw [hL]
  clear hk hkl hb KP M1 B1 hL l4
  go_wp2_with fail
  go_loopw [14] (fun t wr => ∃ j : Nat, j ≤ L ∧ t = .int .i64 j ∧ Hid (MapB wr (w.heap.size + 1) w.heap.size N (dK f lk N j)) ∧ Hid (Below w.heap.size w wr) ∧ Hid (Blk wr k (((kpL lk N).map fun i : Nat => Value.int .i64 (i : Int))).toArray 3)) (fun t _ => L - (intOf t).toNat)
  case atStart => exact ⟨0, by omega, rfl, M2, B2, K2⟩
  case round =>
    clear M2 B2 K2
    obtain ⟨j, hj, rfl, M, B, K⟩ := hrel
    by_cases hlt : j < L
    · have hlt' : (j : Int) < L := by omega
      obtain ⟨i, hi⟩ : ∃ i, (kpL lk N)[j]? = some i := ⟨_, List.getElem?_eq_getElem (by rw [HL.out]; exact hlt)⟩
      have c := K.out.cell j
      simp only [List.getElem?_toArray, List.getElem?_map, hi, Option.map_some] at c
      have PT := drop_any (w.heap.size + 1) w.heap.size N (dK f lk N j) i wr M.out
      rw [← dK_get h0 hi] at PT
      have PTH := hide PT
      generalize dropV N (dK f lk N j) (i : Int) = dv at PTH
      clear PT hi
      go_wp2_with fail
      refine PTH.out.mono ?_
      rintro e w3 ⟨rfl, hM, hK⟩
      have M3 := hide hM
      have B3 : Hid (Below w.heap.size w w3) := hK.to B.out (Nat.le_refl _) B.out.size
      have K3 : Hid (Blk w3 k _ _) := hK.blk K.out K.out.lt kg
      clear hM hK PTH M B K c
      go_wp2
      go_roundw
      case rel => exact ⟨j + 1, by omega, by go_num, M3, B3, K3⟩
      case measure => simp [intOf]; omega
    · have hlt' : ¬ (j : Int) < L := by omega
      have MF := M.out
      rw [dK_full h0 (by rw [HL.out]; omega)] at MF
      have M4 := hide MF
      clear MF M K
      go_wp2
      go_ret
      first
        | exact ⟨w.heap.size + 1, rfl, w.heap.size, M4.out, B.out, by omega, Nat.le_refl _⟩
        | exact ⟨w.heap.size + 1, w.heap.size, rfl, M4.out, B.out, by omega, Nat.le_refl _⟩

end Go.Proofs.YtighdocmncbdnaaGreatDoor

namespace Go.Proofs.YtighdocmncbdnaaGreatDoor
open Go.ChangeShapes Go.WideShapes Go.ChangeAt Go.RowKit
set_option linter.unusedVariables false
set_option linter.unusedSimpArgs false

theorem infoAddr : (Tryz.prog.info? 26).map (fun i => (i.zero, i.size, i.bytes)) = some (some (.agg #[.bool false, .int .u64 0, .int .u64 0]), 3, 24) := by kernel_rfl

theorem MapB.head1 {W : World} {a g N : Nat} {f : Nat → Bool} (H : MapB W a g N f) : W.cell? ⟨a, 0, none⟩ = some (.int .i64 N) := by
  obtain ⟨⟨ws, hm, _⟩, _⟩ := H
  exact hm.head.cell 0

/-- The cells of the addresses of numbers. -/
def cellsU (v : Bool) (n : Nat) (f : Nat → Bool) : Nat → List Value
  | 0 => []
  | j + 1 => if f j then cellsU v n f j ++ [.bool v, .int .u64 (((n + j) / 18446744073709551616 : Nat) : Int), .int .u64 (((n + j) % 18446744073709551616 : Nat) : Int)] else cellsU v n f j

theorem num_parts {a : Nat} (h : a < 340282366920938463463374607431768211456) : IsNum ((a / 18446744073709551616 : Nat) : Int) ((a % 18446744073709551616 : Nat) : Int) a := by
  have := IsNum.ofNat (H := a / 18446744073709551616) (L := a % 18446744073709551616) (by omega) (by omega)
  rw [show a / 18446744073709551616 * 18446744073709551616 + a % 18446744073709551616 = a by omega] at this
  exact this

theorem three_new (W : World) (x y z : Value) (t : TypeId) : ∀ (j : Nat) (u : Value), [x, y, z][j]? = some u → (W.alloc (.cells #[x, y, z] t)).cell? ((⟨W.heap.size, 0, none⟩ : Addr).add j) = some u := by
  intro j u hj
  have e : ((⟨W.heap.size, 0, none⟩ : Addr).add j) = ⟨W.heap.size, j, none⟩ := by
    unfold Addr.add
    split <;> simp_all
  rw [e, (Blk.new W #[x, y, z] t).cell j]
  simpa using hj

set_option maxRecDepth 100000 in
set_option maxHeartbeats 3200000 in
theorem poUsed_c {v : Bool} {h l b : Int} {x a g n : Nat} {f : Nat → Bool} (hp : IsNum h l n) (h0 : 0 < szP v n b) {f' : Nat → Bool} (hf : (fun p => f p && !kpF (lkP v b) (szP v n b) p) = f') (w : World) (P0 : PoAt w v h l b x a g (szP v n b) f) :
    Calls Tryz.prog 29 #[.pointer (some ⟨x, 0, none⟩)] w fun e w' => ∃ sv, e = .returned sv ∧ w'.ownsRow w.heap.size 26 3 sv (cnt f' (szP v n b)) (cellsU v n f' (szP v n b)) ∧ Below w.heap.size w w' := by
  have ok := szP_ok h0
  have le := szP_le (v := v) (n := n) (b := b)
  have US := hide (used_c hp h0 w P0)
  have HT := hide (fun (j : Nat) (hj : j < szP v n b) w' hx => host_c (a := a) (x := x) hp ok hj (num_parts (host_lt hp.lt ok hj).1) w' hx)
  obtain ⟨i0, hi, hz0, hz1, hz2⟩ := info_parts infoAddr
  rw [hf] at US
  obtain ⟨N, hN⟩ : ∃ N, szP v n b = N := ⟨_, rfl⟩
  rw [hN] at US HT P0 le ⊢
  have PH := hide P0
  obtain ⟨x0, x1, x2, x3, x4, xl⟩ := P0.hd.five
  clear P0 hp h0 ok hN hf
  go_enter Tryz.func29, Tryz.ntmps29
  go_wp2_with fail
  refine US.out.mono ?_
  rintro e w1 ⟨a', g', rfl, hM, hb, ha', hg'⟩
  have M1 := hide hM
  have P1 := hide (PH.out.below hb)
  have B1 := hide hb
  have SZ := hide (size_c a' N w1 hM.head1)
  clear US hM hb PH x0 x1 x2 x3 x4
  go_wp2_with fail
  refine SZ.out.mono ?_
  rintro e w1 ⟨rfl, rfl⟩
  clear SZ
  go_wp2_with fail
  go_loopw [3, 12] (fun u i wr => ∃ j : Nat, j ≤ N ∧ i = .int .i64 j ∧ Hid (wr.ownsRow w1.heap.size 26 3 u (cnt f' j) (cellsU v n f' j)) ∧ Below w1.heap.size w1 wr) (fun _ i _ => N - (intOf i).toNat)
  case atStart => exact ⟨0, by omega, rfl, World.ownsRow_nil _ _ _ _, Below.refl _ _⟩
  case round =>
    obtain ⟨j, hj, rfl, hown, hb⟩ := hrel
    have hs := hb.size
    by_cases hlt : j < N
    · have hlt' : (j : Int) < N := by omega
      have HA := hide (bhas_ok a' g' N j f' hlt wr (M1.out.below hb))
      have cj : cnt f' j ≤ j := cnt_le _ _
      cases hfj : f' j
      · rw [hfj] at HA
        have e1 : Hid (cnt f' (j + 1) = cnt f' j ∧ cellsU v n f' (j + 1) = cellsU v n f' j) := by
          constructor
          · simp [cnt, hfj]
          · simp [cellsU, hfj]
        clear hfj
        go_wp2_with fail
        refine HA.out.mono ?_
        rintro e w3 ⟨rfl, hb3⟩
        have O3 := hide (own_below hown.out hb3)
        have B3 := hb.trans (hb3.mono hs)
        clear HA hown hb3 hb
        go_wp2
        go_roundw
        case rel => exact ⟨j + 1, by omega, by go_num, by rw [e1.out.1, e1.out.2]; exact O3, B3⟩
        case measure => simp [intOf]; omega
      · rw [hfj] at HA
        have e1 : Hid (cnt f' (j + 1) = cnt f' j + 1 ∧ cellsU v n f' (j + 1) = cellsU v n f' j ++ [.bool v, .int .u64 (((n + j) / 18446744073709551616 : Nat) : Int), .int .u64 (((n + j) % 18446744073709551616 : Nat) : Int)]) := by
          constructor
          · simp [cnt, hfj]
          · simp [cellsU, hfj]
        obtain ⟨ah, hah⟩ : ∃ ah : Int, (((n + j) / 18446744073709551616 : Nat) : Int) = ah := ⟨_, rfl⟩
        obtain ⟨al, hal⟩ : ∃ al : Int, (((n + j) % 18446744073709551616 : Nat) : Int) = al := ⟨_, rfl⟩
        have HJ := HT.out j hlt
        rw [hah, hal] at e1 HJ
        have HJH := hide HJ
        clear hfj hah hal HJ
        go_wp2_with fail
        refine HA.out.mono ?_
        rintro e w3 ⟨rfl, hb3⟩
        have O3 := hide (own_below hown.out hb3)
        have B3 := hide (hb.trans (hb3.mono hs))
        have HOW := hide (HJH.out w3 (P1.out.below B3.out).hd)
        clear HA hown hb3 hb hs HJH
        go_wp2_with fail
        refine HOW.out.mono ?_
        rintro e w4 ⟨rfl, hb4⟩
        have O4 := hide (own_below O3.out hb4)
        have B4 := hide (B3.out.trans (hb4.mono B3.out.size))
        have hs4 : w1.heap.size ≤ w4.heap.size := B4.out.size
        have N4 := three_new w4 (.bool v) (.int .u64 ah) (.int .u64 al) 26
        have hone : ∀ u ∈ [Value.bool v, .int .u64 ah, .int .u64 al], u.oneCell' = true := by
          intro u hu
          simp at hu
          rcases hu with rfl | rfl | rfl <;> rfl
        clear HOW O3 B3 hb4
        go_wp2_with (first | (at_builtin; refine wpList_append_own _ rfl _ _ 55 rfl w1.heap.size 26 i0 (.agg #[.bool false, .int .u64 0, .int .u64 0]) 3 24 Tryz.underlying55 hi hz0 hz1 hz2 rfl (by decide) _ _ _ rfl (O4.out.alloc _) ⟨w4.heap.size, 0, none⟩ 1 1 [.bool v, .int .u64 ah, .int .u64 al] rfl rfl N4 hone ?c3 ?c4 ?c5 ?_))
        case c3 => unfold maxLen; omega
        case c4 => omega
        case c5 => simp; omega
        intro v' w5 hown5 hgrow _
        have B5 : Below w1.heap.size w1 w5 := below_grown B4.out hs4 O4.out hgrow
        have O5 := hide hown5
        clear O4 B4 hown5 hgrow N4 hone
        go_wp2
        go_roundw
        case rel => exact ⟨j + 1, by omega, by go_num, by rw [e1.out.1, e1.out.2]; exact O5, B5⟩
        case measure => simp [intOf]; omega
    · obtain rfl : j = N := by omega
      have hlt' : ¬ (j : Int) < j := by omega
      have O6 : Hid (wr.ownsRow w.heap.size 26 3 u3 (cnt f' j) (cellsU v n f' j)) := by
        refine ⟨hown.out.1, ?_⟩
        rcases hown.out.2 with q | ⟨g2, cap, cur, q1, q2, q3⟩
        · exact Or.inl q
        · exact Or.inr ⟨g2, cap, cur, q1, Nat.le_trans B1.out.size q2, q3⟩
      have B6 := hide (B1.out.trans (hb.mono B1.out.size))
      clear hown hb hs
      go_wp2
      go_ret
      exact ⟨_, rfl, O6.out, B6.out⟩
end Go.Proofs.YtighdocmncbdnaaGreatDoor

namespace Go.Proofs.YtighdocmncbdnaaGreatDoor
open Go.ChangeShapes Go.WideShapes Go.ChangeAt Go.RowKit
set_option linter.unusedVariables false
set_option linter.unusedSimpArgs false

/-- A slice of numbers that is handed in. -/
def IntsAt (W : World) (x : Option Addr) (len b o : Nat) : Prop := (x = some ⟨b, o, none⟩ ∨ len = 0) ∧ len ≤ 9223372036854775807 ∧ ∀ i, i < len → ∃ z : Int, (-9223372036854775808 ≤ z ∧ z ≤ 9223372036854775807) ∧ W.cell? ⟨b, o + i, none⟩ = some (.int .i64 z)

theorem cell_in {W : World} {b o : Nat} {v : Value} (h : W.cell? ⟨b, o, none⟩ = some v) : b < W.heap.size := by
  apply Classical.byContradiction
  intro c
  simp only [World.cell?] at h
  rw [Array.getElem?_eq_none (by omega)] at h
  cases h

theorem IntsAt.below {w W : World} {x : Option Addr} {len b o : Nat} (h : IntsAt w x len b o) (k : Below w.heap.size w W) : IntsAt W x len b o := by
  refine ⟨h.1, h.2.1, fun i hi => ?_⟩
  obtain ⟨z, hz, h0⟩ := h.2.2 i hi
  have l := cell_in h0
  exact ⟨z, hz, (k.cell (p := ⟨b, _, none⟩) l).trans h0⟩

/-- The cells of addresses. -/
def cellsG (v : Bool) (n : Nat) : List Nat → List Value
  | [] => []
  | p :: r => .bool v :: .int .u64 (((n + p) / 18446744073709551616 : Nat) : Int) :: .int .u64 (((n + p) % 18446744073709551616 : Nat) : Int) :: cellsG v n r

theorem cellsG_add (v : Bool) (n : Nat) : ∀ (l : List Nat) (p : Nat), cellsG v n (l ++ [p]) = cellsG v n l ++ [.bool v, .int .u64 (((n + p) / 18446744073709551616 : Nat) : Int), .int .u64 (((n + p) % 18446744073709551616 : Nat) : Int)]
  | [], p => rfl
  | q :: r, p => by
    show _ :: _ :: _ :: cellsG v n (r ++ [p]) = _
    rw [cellsG_add v n r p]
    rfl

theorem cellsG_at (v : Bool) (n : Nat) : ∀ (l : List Nat) (j : Nat) (h : j < l.length), (cellsG v n l)[j * 3]? = some (.bool v) ∧ (cellsG v n l)[j * 3 + 1]? = some (.int .u64 (((n + l[j]) / 18446744073709551616 : Nat) : Int)) ∧ (cellsG v n l)[j * 3 + 2]? = some (.int .u64 (((n + l[j]) % 18446744073709551616 : Nat) : Int))
  | [], j, h => absurd h (by simp)
  | p :: r, 0, h => ⟨rfl, rfl, rfl⟩
  | p :: r, j + 1, h => by
    obtain ⟨h0, h1, h2⟩ := cellsG_at v n r j (by simpa using h)
    have e : (j + 1) * 3 = j * 3 + 3 := by omega
    rw [e]
    exact ⟨h0, h1, h2⟩

/-- What the law's loop keeps. -/
structure OSt (w : World) (base : Nat) (v : Bool) (h l b : Int) (x a g N : Nat) (f : Nat → Bool) (n : Nat) (u : Value) (gs : List Nat) (W : World) : Prop where
  k : Kn w [(w.heap.size, [.bool v, .int .u64 h, .int .u64 l, .int .i64 b], 28)] W
  p : PoAt W v h l b x a g N f
  row : W.ownsRow base 26 3 u gs.length (cellsG v n gs)
  hg : w.heap.size < g
  gb : g < base ∧ x < base ∧ a < base ∧ w.heap.size < base
  bs : base ≤ W.heap.size

theorem OSt.below {w W W' : World} {base : Nat} {v : Bool} {h l b : Int} {x a g N n : Nat} {f : Nat → Bool} {u : Value} {gs : List Nat} (S : OSt w base v h l b x a g N f n u gs W) (k : Below W.heap.size W W') : OSt w base v h l b x a g N f n u gs W' :=
  ⟨S.k.below k, S.p.below k, own_below S.row k, S.hg, S.gb, Nat.le_trans S.bs k.size⟩

theorem own_but6 {W W' : World} {base size k g : Nat} {e : TypeId} {sv : Value} {xs : List Value} (h : W.ownsRow base e size sv k xs) (hg : g < base) (kb : But [g] W.heap.size W W') : W'.ownsRow base e size sv k xs := by
  refine ⟨h.1, ?_⟩
  rcases h.2 with h1 | ⟨g', cap, cur, h1, h2, h3, h4⟩
  · exact Or.inl h1
  · exact Or.inr ⟨g', cap, cur, h1, h2, (kb.block g' (Array.getElem?_eq_some_iff.1 h3).1 (by simp; omega)).trans h3, h4⟩

theorem OSt.turn {w W W' : World} {base : Nat} {v : Bool} {h l b : Int} {x a g N n : Nat} {f f' : Nat → Bool} {u : Value} {gs : List Nat} (S : OSt w base v h l b x a g N f n u gs W) (P' : PoAt W' v h l b x a g N f') (k : But [g] W.heap.size W W') : OSt w base v h l b x a g N f' n u gs W' :=
  have h1 := S.hg
  ⟨Kn.of ⟨k.blk S.k.2.1.1 S.k.2.1.1.lt (by simp; omega), trivial⟩ (k.to S.k.bel (Nat.le_of_lt S.hg) S.k.bel.size), P', own_but6 S.row S.gb.1 k, S.hg, S.gb, Nat.le_trans S.bs k.size⟩

/-- Behind an append to the row. -/
theorem OSt.grown {w W W' : World} {base : Nat} {v : Bool} {h l b : Int} {x a g N n p : Nat} {f : Nat → Bool} {u u' : Value} {gs : List Nat} {o : Obj} (S : OSt w base v h l b x a g N f n u gs W) (hown : W'.ownsRow base 26 3 u' (gs.length + 1) (cellsG v n gs ++ [.bool v, .int .u64 (((n + p) / 18446744073709551616 : Nat) : Int), .int .u64 (((n + p) % 18446744073709551616 : Nat) : Int)])) (hg : (W.alloc o).grownBy W' u.ownBlock) : OSt w base v h l b x a g N f n u' (gs ++ [p]) W' := by
  have B : Below base W W' := below_grown (Below.refl _ _) S.bs S.row hg
  have kk : But [] base W W' := But.of B (Nat.le_refl _)
  refine ⟨Kn.of ⟨kk.blk S.k.2.1.1 S.gb.2.2.2 (by simp), trivial⟩ (S.k.bel.trans (B.mono (Nat.le_of_lt S.gb.2.2.2))), S.p.keep B S.gb.2.1 S.gb.2.2.1 S.gb.1, ?_, S.hg, S.gb, Nat.le_trans S.bs B.size⟩
  rw [List.length_append, cellsG_add]
  exact hown

/-- What is given is used. -/
structure GOk (f0 f : Nat → Bool) (N : Nat) (gs : List Nat) : Prop where
  used : ∀ p, p ∈ gs → f p = true ∧ p < N
  num : cnt f N = cnt f0 N + gs.length
  more : ∀ p, f0 p = true → f p = true

theorem GOk.start (f0 : Nat → Bool) (N : Nat) : GOk f0 f0 N [] := ⟨fun p h => (by cases h), (by simp), fun p h => h⟩

theorem cnt_put7 {f : Nat → Bool} {n p : Nat} (hp : p < n) (hf : f p = false) : cnt (upd f p true) n = cnt f n + 1 := by
  have e : n = p + (1 + (n - p - 1)) := by omega
  rw [e, cnt_add, cnt_add, cnt_add f, cnt_add]
  have e1 : cnt (upd f p true) p = cnt f p := cnt_congr (fun k hk => by unfold upd; rw [if_neg (by omega)])
  have e2 : cnt (fun j => upd f p true (p + j)) 1 = 1 := by simp [cnt, upd]
  have e3 : cnt (fun j => f (p + j)) 1 = 0 := by simp [cnt, hf]
  have e4 : cnt (fun j => upd f p true (p + (1 + j))) (n - p - 1) = cnt (fun j => f (p + (1 + j))) (n - p - 1) := cnt_congr (fun k hk => by unfold upd; rw [if_neg (by omega)])
  rw [e1, e2, e3, e4]
  omega

theorem GOk.give {f0 f : Nat → Bool} {N p : Nat} {gs : List Nat} (G : GOk f0 f N gs) (hp : p < N) (hf : f p = false) : GOk f0 (upd f p true) N (gs ++ [p]) := by
  refine ⟨fun q hq => ?_, ?_, fun q hq => ?_⟩
  · unfold upd
    split
    · rename_i c
      exact ⟨rfl, c ▸ hp⟩
    · rcases List.mem_append.1 hq with h | h
      · exact G.used q h
      · rename_i c
        simp at h
        exact absurd h c
  · rw [cnt_put7 hp hf, G.num, List.length_append]
    simp
    omega
  · unfold upd
    split
    · rfl
    · exact G.more q hq

theorem cnt_diff {f f0 : Nat → Bool} : ∀ N, (∀ p, f0 p = true → f p = true) → cnt (fun p => f p && !f0 p) N + cnt f0 N = cnt f N
  | 0, _ => rfl
  | N + 1, h => by
    have ih := cnt_diff N h
    have key : ∀ x y : Bool, (y = true → x = true) → (if (x && !y) = true then 1 else 0) + (if y = true then 1 else 0) = (if x = true then (1 : Nat) else 0) := by
      intro x y hxy
      cases x <;> cases y <;> simp_all
    simp only [cnt]
    rw [Nat.add_add_add_comm, ih, key _ _ (h N)]

theorem next_some {f : Nat → Bool} {N s : Nat} (hs : s < N) (h : cnt f N < N) : ∃ p, nextF f N s = some p ∧ p < N ∧ f p = false := by
  cases e : nextF f N s with
  | none =>
    have := (cnt_full (p := f) (n := N)).2 (nextF_none hs e)
    omega
  | some p => exact ⟨p, rfl, nextF_is hs e⟩

theorem next_none {f : Nat → Bool} {N s : Nat} (hs : s < N) (h : cnt f N = N) : nextF f N s = none := by
  cases e : nextF f N s with
  | none => rfl
  | some p =>
    obtain ⟨h1, h2⟩ := nextF_is hs e
    have := (cnt_full (p := f) (n := N)).1 h p h1
    rw [h2] at this
    cases this

/-- An address that may be given is not the prefix's first one, nor the last one of one that isn't V6. -/
theorem given_ne {v : Bool} {n p : Nat} {b : Int} (ok : okP v n b = true) (hp : p < szP v n b) (h5 : szP v n b ≤ 512) (hk : kpF (lkP v b) (szP v n b) p = false) : n + p ≠ n ∧ (v = false → n + p ≠ lastN v n b) := by
  unfold kpF at hk
  simp at hk
  refine ⟨by omega, fun hv => ?_⟩
  subst hv
  unfold lastN
  have c : behindP false b ≤ 16 := by
    apply Classical.byContradiction
    intro c
    unfold szP at h5
    rw [if_pos ok, if_neg c] at h5
    omega
  have e : szP false n b = 2 ^ behindP false b := by unfold szP; rw [if_pos ok, if_pos c]
  have lk : lkP false b = true := by unfold lkP; simp [c]
  rw [lk] at hk
  have := hk.2
  simp at this
  omega
end Go.Proofs.YtighdocmncbdnaaGreatDoor
