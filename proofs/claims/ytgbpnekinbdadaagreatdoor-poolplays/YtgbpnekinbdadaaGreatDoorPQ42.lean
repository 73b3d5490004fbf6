/-
  Texts Po8, Po7, PoG, PoR8, PoU, PoO of the proof.
-/
import Derived.Test.YtgbpnekinbdadaaGreatDoorPQ40
import Derived.Test.YtgbpnekinbdadaaGreatDoorPQ23
import Derived.Test.YtgbpnekinbdadaaGreatDoorPQ38
import Derived.Test.YtgbpnekinbdadaaGreatDoorPQ22
import Derived.Test.YtgbpnekinbdadaaGreatDoorPQ29

namespace Go.Proofs.YtgbpnekinbdadaaGreatDoor
open Go.ChangeShapes Go.WideShapes Go.ChangeAt Go.RowKit
set_option linter.unusedVariables false
set_option linter.unusedSimpArgs false

/-- What is used, without the first k of those that are kept. -/
def dK (f : Nat → Bool) (lk : Bool) (N k : Nat) : Nat → Bool := fun p => f p && !decide (p ∈ (kpL lk N).take k)

theorem dK_zero {f : Nat → Bool} {lk : Bool} {N : Nat} : dK f lk N 0 = f := by
 funext p
 simp [dK]

theorem dK_full {f : Nat → Bool} {lk : Bool} {N k : Nat} (h0 : 0 < N) (hk : (kpL lk N).length ≤ k) : dK f lk N k = fun p => f p && !kpF lk N p := by
 funext p
 rw [← kp_mem h0]
 unfold dK
 rw [List.take_of_length_le hk]

theorem dK_get {f : Nat → Bool} {lk : Bool} {N k i : Nat} (h0 : 0 < N) (hi : (kpL lk N)[k]? = some i) : dK f lk N (k + 1) = dropF N (dK f lk N k) i := by
 have e : dropF N (dK f lk N k) (i : Int) = upd (dK f lk N k) i false := by
  have : i < N := by
   have hm := List.mem_of_getElem? hi
   have : kpF lk N i = true := by rw [← kp_mem h0]; exact decide_eq_true hm
   unfold kpF at this
   simp at this
   omega
  unfold dropF
  rw [if_pos (by omega), Int.toNat_natCast]
 rw [e]
 funext p
 have ht : (kpL lk N).take (k + 1) = (kpL lk N).take k ++ [i] := by rw [List.take_add_one, hi]; rfl
 unfold upd dK
 rw [ht]
 by_cases c : p = i
 ·subst c; simp
 ·simp [c]

set_option maxRecDepth 100000 in
set_option maxHeartbeats 3200000 in
theorem used_c {v : Bool} {h l b : Int} {x a g n : Nat} {f : Nat → Bool} (hp : IsNum h l n) (h0 : 0 < szP v n b) (w : World) (P0 : PoAt w v h l b x a g (szP v n b) f) :
  Calls Tryz.prog 62 #[.pointer (some ⟨x, 0, none⟩)] w fun e w' => ∃ a' g', e = .returned (.pointer (some ⟨a', 0, none⟩)) ∧ MapB w' a' g' (szP v n b) (fun p => f p && !kpF (lkP v b) (szP v n b) p) ∧ Below w.heap.size w w' ∧ w.heap.size ≤ a' ∧ w.heap.size ≤ g' := by
 have KE := fun w' P' => kept_c (v := v) (b := b) (x := x) (a := a) (g := g) (f := f) hp h0 w' P'
 obtain ⟨N, hN⟩ : ∃ N, szP v n b = N := ⟨_, rfl⟩
 obtain ⟨lk, hlk⟩ : ∃ lk, lkP v b = lk := ⟨_, rfl⟩
 rw [hN] at KE P0 h0 ⊢
 rw [hlk] at KE ⊢
 have KH := hide KE
 obtain ⟨x0, x1, x2, x3, x4, xl⟩ := P0.hd.five
 have CC := hide (copy_ok a g N f w P0.m)
 have PH := hide P0
 clear KE P0 hp hN hlk
 go_enter Tryz.func62, Tryz.ntmps62
 go_wp2_with fail
 refine CC.out.mono ?_
 rintro e w1 ⟨rfl, hM, hb, hs⟩
 have P1 := PH.out.below hb
 have KP := hide (KH.out w1 P1)
 have M1 := hide hM
 have B1 := hide hb
 clear CC hM hb hs KH PH P1 x0 x1 x2 x3 x4
 go_wp2_with fail
 refine KP.out.mono ?_
 rintro e w2 ⟨k, rfl, hk, hkl, hb⟩
 have l4 := M1.out.lt
 have M2 : Hid (MapB w2 (w.heap.size + 1) w.heap.size N (dK f lk N 0)) := by rw [dK_zero]; exact M1.out.below hb
 have B2 : Hid (Below w.heap.size w w2) := B1.out.trans (hb.mono B1.out.size)
 have K2 := hide hk
 have kg : k ∉ [w.heap.size] := by simp; omega
 obtain ⟨L, hL⟩ : ∃ L, (kpL lk N).length = L := ⟨_, rfl⟩
 have L2 : L ≤ 2 := hL ▸ kpL_len lk N
 have HL := hide hL
 rw [hL]
 clear hk hkl hb KP M1 B1 hL l4
 go_wp2_with fail
 go_loopw [14] (fun t wr => ∃ j : Nat, j ≤ L ∧ t = .int .i64 j ∧ Hid (MapB wr (w.heap.size + 1) w.heap.size N (dK f lk N j)) ∧ Hid (Below w.heap.size w wr) ∧ Hid (Blk wr k (((kpL lk N).map fun i : Nat => Value.int .i64 (i : Int))).toArray 3)) (fun t _ => L - (intOf t).toNat)
 case atStart => exact ⟨0, by omega, rfl, M2, B2, K2⟩
 case round =>
  clear M2 B2 K2
  obtain ⟨j, hj, rfl, M, B, K⟩ := hrel
  by_cases hlt : j < L
  ·have hlt' : (j : Int) < L := by omega
   obtain ⟨i, hi⟩ : ∃ i, (kpL lk N)[j]? = some i := ⟨_, List.getElem?_eq_getElem (by rw [HL.out]; exact hlt)⟩
   have c := K.out.cell j
   simp only [List.getElem?_toArray, List.getElem?_map, hi, Option.map_some] at c
   have PT := drop_any (w.heap.size + 1) w.heap.size N (dK f lk N j) i wr M.out
   rw [← dK_get h0 hi] at PT
   have PTH := hide PT
   generalize dropV N (dK f lk N j) (i : Int) = dv at PTH
   clear PT hi
   go_wp2_with fail
   refine PTH.out.mono ?_
   rintro e w3 ⟨rfl, hM, hK⟩
   have M3 := hide hM
   have B3 : Hid (Below w.heap.size w w3) := hK.to B.out (Nat.le_refl _) B.out.size
   have K3 : Hid (Blk w3 k _ _) := hK.blk K.out K.out.lt kg
   clear hM hK PTH M B K c
   go_wp2
   go_roundw
   case rel => exact ⟨j + 1, by omega, by go_num, M3, B3, K3⟩
   case measure => simp [intOf]; omega
  ·have hlt' : ¬ (j : Int) < L := by omega
   have MF := M.out
   rw [dK_full h0 (by rw [HL.out]; omega)] at MF
   have M4 := hide MF
   clear MF M K
   go_wp2
   go_ret
   first
    | exact ⟨w.heap.size + 1, rfl, w.heap.size, M4.out, B.out, by omega, Nat.le_refl _⟩
    | exact ⟨w.heap.size + 1, w.heap.size, rfl, M4.out, B.out, by omega, Nat.le_refl _⟩

/-- A pool's bytes. -/
def poS (v : Bool) (n : Nat) (b : Int) (f : Nat → Bool) : ByteArray := prP v n b ++ ⟨#[0]⟩ ++ bytesS (szP v n b) (fun p => f p && !kpF (lkP v b) (szP v n b) p)

theorem bitsT_size {b : Int} (h0 : 0 ≤ b) (h1 : b ≤ 128) : (bitsT b).size ≤ 20 := by
 have := decDigits_len (n := b.toNat) (by omega)
 unfold bitsT
 show (Lib.decDigits b.toNat).toArray.size ≤ 20
 rw [List.size_toArray]
 exact this

theorem prP_size (v : Bool) (n : Nat) (b : Int) : (prP v n b).size ≤ 2100 := by
 unfold prP
 split
 ·rename_i ok
  obtain ⟨_, h0, h1⟩ := fitsB_parts (okP_parts ok).1
  have hw := width_le v
  have a1 := prA_size v n
  have a2 := bitsT_size h0 (by omega)
  have a3 : (⟨#[47]⟩ : ByteArray).size = 1 := rfl
  rw [ByteArray.size_append, ByteArray.size_append]
  omega
 ·decide

theorem bytesS_size (N : Nat) (f : Nat → Bool) : (bytesS N f).size = bytesN N := by
 have e := congrArg List.length (bytesS_list N f)
 rw [List.length_map, List.length_range] at e
 exact e

set_option maxRecDepth 100000 in
set_option maxHeartbeats 1600000 in
theorem poBytes_c {v : Bool} {h l b : Int} {x a g n : Nat} {f : Nat → Bool} (hp : IsNum h l n) (h0 : 0 < szP v n b) (w : World) (hL : LW w) (P0 : PoAt w v h l b x a g (szP v n b) f) :
  Calls Tryz.prog 26 #[.pointer (some ⟨x, 0, none⟩)] w fun e w' => e = .returned (.string (poS v n b f)) ∧ Below w.heap.size w w' := by
 have PP := hide (pprint_c (v := v) (b := b) hp w hL)
 have US := hide (fun w' P' => used_c (v := v) (b := b) (x := x) (a := a) (g := g) (f := f) hp h0 w' P')
 have s1 := prP_size v n b
 have s2 := bytesS_size (szP v n b) (fun p => f p && !kpF (lkP v b) (szP v n b) p)
 have le := szP_le (v := v) (n := n) (b := b)
 have bn : bytesN (szP v n b) ≤ 8196 := by unfold bytesN; omega
 have HS : Hid (poS v n b f = prP v n b ++ ⟨#[0]⟩ ++ bytesS (szP v n b) (fun p => f p && !kpF (lkP v b) (szP v n b) p)) := rfl
 obtain ⟨x0, x1, x2, x3, x4, xl⟩ := P0.hd.five
 have PH := hide P0
 generalize poS v n b f = R at *
 generalize prP v n b = A at *
 clear hp h0 hL P0
 go_enter Tryz.func26, Tryz.ntmps26
 go_wp2_with fail
 refine PP.out.mono ?_
 rintro e w1 ⟨rfl, hb⟩
 have P1 := PH.out.below hb
 have U1 := hide (US.out w1 P1)
 have B1 := hide hb
 clear PP hb PH US P1 x0 x1 x2 x3 x4
 go_wp2_with fail
 refine U1.out.mono ?_
 rintro e w2 ⟨a', g', rfl, hM, hb, _, _⟩
 have MB := hide (bytes_ok a' g' _ _ w2 hM)
 have B2 := hide (B1.out.trans (hb.mono B1.out.size))
 generalize bytesS (szP v n b) (fun p => f p && !kpF (lkP v b) (szP v n b) p) = D at *
 clear U1 hM hb B1
 have s3 : D.size ≤ 8196 := by omega
 go_wp2_with fail
 refine MB.out.mono ?_
 rintro e w3 ⟨rfl, hb⟩
 have B3 := hide (B2.out.trans (hb.mono B2.out.size))
 clear MB hb B2
 go_wp2
 go_ret
 exact ⟨by rw [HS.out]; rfl, B3.out⟩


theorem parse6_ex : parsePF [49, 48, 46, 48, 46, 48, 46, 48, 47, 51, 48] = some (false, 167772160, 30) := by decide +kernel

theorem print6_ex1 : prA false 167772162 = ⟨#[49, 48, 46, 48, 46, 48, 46, 50]⟩ := by decide +kernel

theorem print6_ex2 : prA false 167772161 = ⟨#[49, 48, 46, 48, 46, 48, 46, 49]⟩ := by decide +kernel

theorem sz6 : szP false 167772160 30 = 4 := by decide +kernel

theorem lk6 : lkP false 30 = true := by decide +kernel

set_option maxRecDepth 100000 in
set_option maxHeartbeats 3200000 in
theorem awake6_c (w : World) (hL : LW w) (hT : TB w) : Calls Tryz.prog 11 #[] w fun e w' => e = .returned (.bool true) ∧ Below w.heap.size w w' := by
 have hz := hL.sz
 have Lx : Hid (∀ W, Below w.heap.size w W → LW W) := fun W hb => hL.of hb hz
 have Tx : Hid (∀ W, Below w.heap.size w W → TB W) := fun W hb => hT.below hb
 have n0 : IsNum 0 167772160 167772160 := ⟨by omega, by omega, by omega, by omega, rfl⟩
 have n1 : IsNum 0 167772161 167772161 := ⟨by omega, by omega, by omega, by omega, rfl⟩
 have n2 : IsNum 0 167772162 167772162 := ⟨by omega, by omega, by omega, by omega, rfl⟩
 have P1 : Hid (∀ w', LW w' → Calls Tryz.prog 6 #[.string ⟨#[49, 48, 46, 48, 46, 48, 46, 48, 47, 51, 48]⟩] w' fun e w1 => e = .returned (.tuple #[pv false 0 167772160 30, .int .i64 0]) ∧ Below w'.heap.size w' w1) := fun w' h => pparse_is _ (by decide) (Or.inl ⟨167772160, 30, parse6_ex, n0, rfl, rfl⟩) w' h
 have NW : Hid (∀ w', Calls Tryz.prog 13 #[pv false 0 167772160 30] w' fun e w1 => ∃ x a g, e = .returned (.tuple #[.pointer (some ⟨x, 0, none⟩), .int .i64 0]) ∧ PoAt w1 false 0 167772160 30 x a g 4 (kpF true 4) ∧ Below w'.heap.size w' w1 ∧ w'.heap.size ≤ x ∧ w'.heap.size ≤ g) := fun w' => by
  have := poNew_ok n0 (by rw [sz6]; decide) w'
  rw [sz6, lk6] at this
  exact this
 have X1 : Hid (∀ x a g w', TB w' → PoAt w' false 0 167772160 30 x a g 4 (kpF true 4) → Calls Tryz.prog 45 #[.pointer (some ⟨x, 0, none⟩), .int .i64 2] w' fun e w1 => e = .returned (.tuple #[av false 0 167772162, .int .i64 0]) ∧ PoAt w1 false 0 167772160 30 x a g 4 (upd (kpF true 4) 2 true) ∧ But [g] w'.heap.size w' w1) := fun x a g w' hT P => by
  have := poNext_ok (x := x) (a := a) (g := g) (f := kpF true 4) (i := 2) (p := 2) n0 (by rw [sz6]; decide) (by decide) (by decide) (by rw [sz6]; decide) n2 w' hT (by rw [sz6]; exact P)
  rw [sz6] at this
  exact this
 have X2 : Hid (∀ x a g w', TB w' → PoAt w' false 0 167772160 30 x a g 4 (upd (kpF true 4) 2 true) → Calls Tryz.prog 45 #[.pointer (some ⟨x, 0, none⟩), .int .i64 2] w' fun e w1 => e = .returned (.tuple #[av false 0 167772161, .int .i64 0]) ∧ PoAt w1 false 0 167772160 30 x a g 4 (upd (upd (kpF true 4) 2 true) 1 true) ∧ But [g] w'.heap.size w' w1) := fun x a g w' hT P => by
  have := poNext_ok (x := x) (a := a) (g := g) (f := upd (kpF true 4) 2 true) (i := 2) (p := 1) n0 (by rw [sz6]; decide) (by decide) (by decide) (by rw [sz6]; decide) n1 w' hT (by rw [sz6]; exact P)
  rw [sz6] at this
  exact this
 have X3 : Hid (∀ x a g w', TB w' → PoAt w' false 0 167772160 30 x a g 4 (upd (upd (kpF true 4) 2 true) 1 true) → Calls Tryz.prog 45 #[.pointer (some ⟨x, 0, none⟩), .int .i64 2] w' fun e w1 => e = .returned (.tuple #[av false 0 0, .int .i64 9]) ∧ Below w'.heap.size w' w1) := fun x a g w' hT P => poNext_full (by decide) (by decide) (by decide) (by decide) w' hT P
 have T1 : Hid (∀ w', LW w' → Calls Tryz.prog 38 #[av false 0 167772162] w' fun e w1 => e = .returned (.string ⟨#[49, 48, 46, 48, 46, 48, 46, 50]⟩) ∧ Below w'.heap.size w' w1) := fun w' h => print6_ex1 ▸ aprint_c n2 w' h
 have T2 : Hid (∀ w', LW w' → Calls Tryz.prog 38 #[av false 0 167772161] w' fun e w1 => e = .returned (.string ⟨#[49, 48, 46, 48, 46, 48, 46, 49]⟩) ∧ Below w'.heap.size w' w1) := fun w' h => print6_ex2 ▸ aprint_c n1 w' h
 clear n0 n1 n2 hL hT
 go_enter Tryz.func11, Tryz.ntmps11
 go_wp2_with fail
 refine (P1.out _ (Lx.out _ (by repeat (first | with_reducible exact Below.refl _ _ | with_reducible refine Below.drew ?_ | with_reducible refine Below.alloc ?_ (by first | omega | (simp <;> omega)) _ | with_reducible refine Below.setCell ?_ (by first | omega | (simp <;> omega)) _)))).mono ?_
 rintro e w1 ⟨rfl, hb1⟩
 have K1 := (Kn.of (w := w) (W := w1) (L := []) trivial hb1).push (b := w1.heap.size) (cs := [.bool false, .int .u64 0, .int .u64 167772160, .int .i64 30]) (t := 28) rfl
 have KH := hide K1
 clear P1 hb1 K1
 go_wp2_with fail
 refine (NW.out _).mono ?_
 rintro e w2 ⟨x, a, g, rfl, hP, hb, hx, hg⟩
 have B2 := hide (KH.out.below hb).bel
 have P2 := hide hP
 have G2 : Hid (w.heap.size ≤ g) := Nat.le_trans KH.out.bel.size hg
 have XX := hide (X1.out x a g w2 (Tx.out _ B2.out) hP)
 clear NW hP hb hx hg KH X1
 go_wp2_with fail
 refine XX.out.mono ?_
 rintro e w3 ⟨rfl, hP, hK⟩
 have B3 := hide (hK.to B2.out G2.out B2.out.size)
 have bl : Below w3.heap.size w3 (w3.alloc (.cells #[.bool false, .int .u64 0, .int .u64 167772162] 26)) := by repeat (first | with_reducible exact Below.refl _ _ | with_reducible refine Below.drew ?_ | with_reducible refine Below.alloc ?_ (by first | omega | (simp <;> omega)) _ | with_reducible refine Below.setCell ?_ (by first | omega | (simp <;> omega)) _)
 have B3' := hide (B3.out.trans (bl.mono B3.out.size))
 have P3' := hide (hP.below bl)
 have A3 := hide (Blk.new w3 #[.bool false, .int .u64 0, .int .u64 167772162] 26)
 have ne3 : Hid (w3.heap.size ∉ [g]) := by show _ ∉ _; have := hP.m.lt; simp; omega
 have XX2 := hide (X2.out x a g _ (Tx.out _ B3'.out) P3'.out)
 clear XX hP hK X2 bl P2 B2
 go_wp2_with fail
 refine XX2.out.mono ?_
 rintro e w4 ⟨rfl, hP, hK⟩
 have A4 := hide (hK.blk A3.out A3.out.lt ne3.out)
 have B4 := hide (hK.to B3'.out G2.out B3'.out.size)
 have bl : Below w4.heap.size w4 (w4.alloc (.cells #[.bool false, .int .u64 0, .int .u64 167772161] 26)) := by repeat (first | with_reducible exact Below.refl _ _ | with_reducible refine Below.drew ?_ | with_reducible refine Below.alloc ?_ (by first | omega | (simp <;> omega)) _ | with_reducible refine Below.setCell ?_ (by first | omega | (simp <;> omega)) _)
 have B4' := hide (B4.out.trans (bl.mono B4.out.size))
 have P4' := hide (hP.below bl)
 have A4' := hide (A4.out.below bl)
 have C4 := hide (Blk.new w4 #[.bool false, .int .u64 0, .int .u64 167772161] 26)
 have XX3 := hide (X3.out x a g _ (Tx.out _ B4'.out) P4'.out)
 clear XX2 hP hK X3 bl A3 A4 B3 B3' P3' ne3
 go_wp2_with fail
 refine XX3.out.mono ?_
 rintro e w5 ⟨rfl, hb⟩
 have A5 := A4'.out.below hb
 have C5 := C4.out.below hb
 have B5 := B4'.out.trans (hb.mono B4'.out.size)
 have K5 := ((Kn.of (w := w) (W := w5) (L := []) trivial B5).cons (cs := [.bool false, .int .u64 0, .int .u64 167772162]) A5).cons (cs := [.bool false, .int .u64 0, .int .u64 167772161]) C5
 have K6 := K5.push (b := w5.heap.size) (cs := [.bool false, .int .u64 0, .int .u64 0]) (t := 26) rfl
 have F := K6.1
 simp only [Facts, CellsAt] at F
 have KH := hide K6
 clear XX3 hb A5 C5 B5 K5 K6 A4' C4 B4' P4' B4
 go_wp2_with fail
 refine (T1.out _ (Lx.out _ KH.out.bel)).mono ?_
 rintro e w6 ⟨rfl, hb⟩
 have K7 := KH.out.below hb
 have F7 := K7.1
 simp only [Facts, CellsAt] at F7
 have KH7 := hide K7
 clear hb T1 KH K7 F
 go_wp2_with fail
 refine (T2.out _ (Lx.out _ KH7.out.bel)).mono ?_
 rintro e w7 ⟨rfl, hb⟩
 have B8 := (KH7.out.below hb).bel
 clear hb T2 KH7 F7
 go_wp2
 go_ret
 exact ⟨by first | rfl | simp, B8⟩


theorem cnt_put6 {f : Nat → Bool} {n p : Nat} (hp : p < n) (hf : f p = false) : cnt (upd f p true) n = cnt f n + 1 := by
 have e : n = p + (1 + (n - p - 1)) := by omega
 rw [e, cnt_add, cnt_add, cnt_add f, cnt_add]
 have e1 : cnt (upd f p true) p = cnt f p := cnt_congr (fun k hk => by unfold upd; rw [if_neg (by omega)])
 have e2 : cnt (fun j => upd f p true (p + j)) 1 = 1 := by simp [cnt, upd]
 have e3 : cnt (fun j => f (p + j)) 1 = 0 := by simp [cnt, hf]
 have e4 : cnt (fun j => upd f p true (p + (1 + j))) (n - p - 1) = cnt (fun j => f (p + (1 + j))) (n - p - 1) := cnt_congr (fun k hk => by unfold upd; rw [if_neg (by omega)])
 rw [e1, e2, e3, e4]
 omega

/-- The first of the numbers at which something holds. -/
theorem least_at {P : Nat → Bool} : ∀ K, P K = true → ∃ k, k ≤ K ∧ P k = true ∧ ∀ j, j < k → P j = false
 | 0, h => ⟨0, Nat.le_refl _, h, fun j hj => absurd hj (by omega)⟩
 | K + 1, h => by
  by_cases c : ∃ j, j ≤ K ∧ P j = true
  ·obtain ⟨j, hj, hP⟩ := c
   -- the least among those up to K
   have : ∀ m, m ≤ K → (∃ j, j ≤ m ∧ P j = true) → ∃ k, k ≤ m ∧ P k = true ∧ ∀ j, j < k → P j = false := by
    intro m
    induction m with
    | zero =>
     rintro _ ⟨j, h1, h2⟩
     obtain rfl : j = 0 := by omega
     exact ⟨0, Nat.le_refl _, h2, fun j hj => absurd hj (by omega)⟩
    | succ m ih =>
     rintro hm ⟨j, h1, h2⟩
     by_cases d : ∃ j, j ≤ m ∧ P j = true
     ·obtain ⟨k, k1, k2, k3⟩ := ih (by omega) d
      exact ⟨k, by omega, k2, k3⟩
     ·have e : j = m + 1 := by
       apply Classical.byContradiction
       intro e
       exact d ⟨j, by omega, h2⟩
      refine ⟨m + 1, Nat.le_refl _, e ▸ h2, fun q hq => ?_⟩
      cases hq2 : P q
      ·rfl
      ·exact absurd ⟨q, by omega, hq2⟩ d
   obtain ⟨k, k1, k2, k3⟩ := this K (Nat.le_refl _) ⟨j, hj, hP⟩
   exact ⟨k, by omega, k2, k3⟩
  ·refine ⟨K + 1, Nat.le_refl _, h, fun j hj => ?_⟩
   cases e : P j
   ·rfl
   ·exact absurd ⟨j, by omega, e⟩ c

/-- Where a bit is not one, Next tells one, and how far it is. -/
theorem next_round {f : Nat → Bool} {N s i : Nat} (hs : s < N) (hi : i < N) (hf : f i = false) : ∃ k p, k < N ∧ p = (s + k) % N ∧ p < N ∧ f p = false ∧ nextF f N s = some p ∧ ∀ j, j < k → f ((s + j) % N) = true := by
 obtain ⟨K, hK, hKi⟩ : ∃ K, K < N ∧ (s + K) % N = i := by
  by_cases c : s ≤ i
  ·exact ⟨i - s, by omega, by rw [show s + (i - s) = i by omega]; exact Nat.mod_eq_of_lt hi⟩
  ·refine ⟨N - s + i, by omega, ?_⟩
   rw [show s + (N - s + i) = i + N by omega, Nat.add_mod_right]
   exact Nat.mod_eq_of_lt hi
 obtain ⟨k, k1, k2, k3⟩ := least_at (P := fun k => !f ((s + k) % N)) K (by rw [hKi, hf]; rfl)
 have k2' : f ((s + k) % N) = false := by simpa using k2
 refine ⟨k, (s + k) % N, by omega, rfl, Nat.mod_lt _ (by omega), k2', nextF_round hs (by omega) rfl (fun j hj => by simpa using k3 j hj) k2', fun j hj => by simpa using k3 j hj⟩

theorem Blks.but {W W' : World} {g : Nat} (k : But [g] W.heap.size W W') : ∀ {L : List (Nat × List Value × TypeId)}, Off g L → Blks W L → Blks W' L
 | [], _, _ => trivial
 | e :: r, o, h => ⟨k.blk h.1 h.1.lt (by simpa using o.1), Blks.but k o.2 h.2⟩



set_option maxRecDepth 100000 in
set_option maxHeartbeats 6400000 in
theorem rnext06_full {v : Bool} {h l b : Int} {base r n s : Nat} {us : List Nat} {o : Int} (hp : IsNum h l n) (h0 : 0 < szP v n b) (o1 : o ≤ 9223372036854775807) (o0 : -9223372036854775808 ≤ o) (hs : s = o.toNat % szP v n b)
  (hbusy : ∀ j, j < szP v n b → usF (lkP v b) (szP v n b) us ((s + j) % szP v n b) = true) (hus : us.length ≤ 1000) (w : World) (P : RpAt w base v h l b r (szP v n b) us) :
  Calls Tryz.prog 56 #[.pointer (some ⟨r, 0, none⟩), .int .i64 o] w fun e w' => e = .returned (.tuple #[av false 0 0, .int .i64 9]) ∧ Below w.heap.size w w' := by
 have ok := szP_ok h0
 have le := szP_le (v := v) (n := n) (b := b)
 have hsN : s < szP v n b := by rw [hs]; exact Nat.mod_lt _ h0
 have KE := hide (fun (I : Int) (i : Nat) (hI : I = (i : Int)) (hi : i ≤ 65536) (t : Bool) (ht : kpF (lkP v b) (szP v n b) i = t) w' (P' : RpAt w' base v h l b r (szP v n b) us) => rkept06_c hI hi h0 le hp ok ht w' P')
 have HS := hide (fun (I : Int) (i : Nat) (hI : I = (i : Int)) (t : Bool) (ht : decide (i ∈ us) = t) w' (P' : RpAt w' base v h l b r (szP v n b) us) => (show Calls Tryz.prog 23 #[.pointer (some ⟨r, 0, none⟩), .int .i64 I] w' _ from hI ▸ rhas06_c ht (by omega) w' P'))
 obtain ⟨N, hN⟩ : ∃ N, szP v n b = N := ⟨_, rfl⟩
 rw [hN] at KE HS h0 hs hbusy le hsN P
 have HBZ := hide hbusy
 obtain ⟨i0, hi, hz0, hz1, hz2⟩ := info_parts infoInt
 have bl : Below w.heap.size w (w.alloc (.cells #[.bool false, .int .u64 0, .int .u64 0] 26)) := by repeat (first | with_reducible exact Below.refl _ _ | with_reducible refine Below.drew ?_ | with_reducible refine Below.alloc ?_ (by first | omega | (simp <;> omega)) _ | with_reducible refine Below.setCell ?_ (by first | omega | (simp <;> omega)) _)
 have PH := hide (P.below bl)
 have RH := hide (Blk.new w #[.bool false, .int .u64 0, .int .u64 0] 26)
 have BH := hide bl
 obtain ⟨sv0, hb0, ho0⟩ := P.is
 obtain ⟨r0, r1, r2, r3, r4, r5, rl0⟩ := hb0.six
 have hz : ((N : Int) == 0) = false := by simp; omega
 have em : (o < 0 ∧ s = 0) ∨ (0 ≤ o ∧ o % (N : Int) = (s : Int)) := by
  by_cases h : o < 0
  ·left
   refine ⟨h, ?_⟩
   rw [hs, show o.toNat = 0 by omega, Nat.zero_mod]
  ·right
   refine ⟨by omega, ?_⟩
   rw [hs]
   obtain ⟨m, rfl⟩ := Int.eq_ofNat_of_zero_le (show 0 ≤ o by omega)
   simp
 have ST : Hid (∀ q : Int, q = (s : Int) → q = (((s + 0) % N : Nat) : Int) ∧ 0 ≤ q ∧ q < N) := fun q e => by
  rw [Nat.add_zero, Nat.mod_eq_of_lt hsN]
  omega
 clear bl P hb0 ho0 hbusy hs hp ok hN hsN
 rcases em with ⟨hi1, em⟩ | ⟨hi1, em⟩
 all_goals
  have EM := hide em
  first
   | (clear em; have em0 : Hid (s = 0) := EM; clear EM)
   | skip
  go_enter Tryz.func56, Tryz.ntmps56
  go_wp2_with fail
  go_loopw [6, 7] (fun iv kv wr => ∃ (j : Nat) (q : Int), j ≤ N ∧ kv = .int .i64 j ∧ iv = .int .i64 q ∧ 0 ≤ q ∧ q < N ∧ Hid (q = (((s + j) % N : Nat) : Int)) ∧ Hid (RpAt wr base v h l b r N us) ∧ Hid (Blk wr w.heap.size #[.bool false, .int .u64 0, .int .u64 0] 26) ∧ Hid (Below w.heap.size w wr)) (fun _ kv _ => N + 1 - (intOf kv).toNat)
  case atStart =>
   first
    | exact ⟨0, 0, by omega, rfl, rfl, by omega, by omega, (ST.out _ (by rw [em0.out]; rfl)).1, PH, RH, BH⟩
    | exact ⟨0, _, by omega, rfl, rfl, (ST.out _ em).2.1, (ST.out _ em).2.2, (ST.out _ em).1, PH, RH, BH⟩
    | (simp only [em]; exact ⟨0, _, by omega, rfl, rfl, (ST.out _ rfl).2.1, (ST.out _ rfl).2.2, (ST.out _ rfl).1, PH, RH, BH⟩)
  case round =>
   clear PH RH BH ST r0 r1 r2 r3 r4 r5
   try clear em
   obtain ⟨j, q, hj, rfl, rfl, q0, q1, hq, P, R, B⟩ := hrel
   obtain ⟨sv, hb, ho⟩ := P.out.is
   obtain ⟨r0, r1, r2, r3, r4, r5, rlt⟩ := hb.six
   have hqo := hq.out
   have i6 : (s + j) % N ≤ 65536 := by have := Nat.mod_lt (s + j) h0; omega
   clear hb ho
   by_cases hlt : j < N
   ·have jN : (j : Int) < N := by omega
    have HB := HBZ.out j hlt
    have NX : Hid (∀ q' : Int, (q + 1 = N → q' = 0) → (¬ q + 1 = N → q' = q + 1) → q' = (((s + (j + 1)) % N : Nat) : Int)) := fun q' h1 h2 => by
     rw [round_step h0]
     split
     ·rename_i c; rw [h1 (by omega)]; rfl
     ·rename_i c; rw [h2 (by omega)]; omega
    have QR : Hid (q + 1 = N ∨ ¬ q + 1 = N) := Classical.em _
    rcases busy_parts HB with e1 | ⟨e1, e2⟩
    ·have K1 := hide (KE.out q _ hqo i6 true e1 wr P.out)
     clear HB hqo e1
     go_wp2_with fail
     refine K1.out.mono ?_
     rintro e w1 ⟨rfl, hb1⟩
     have P1 := hide (P.out.below hb1)
     have R1 := hide (R.out.below hb1)
     have B1 := hide (B.out.trans (hb1.mono B.out.size))
     obtain ⟨sv1, hb1', _⟩ := P1.out.is
     obtain ⟨y0, y1, y2, y3, y4, y5, yl⟩ := hb1'.six
     clear K1 hb1 hb1' P R B r0 r1 r2 r3 r4 r5 y0 y1 y2 y3 y5
     rcases QR.out with hw | hw
     all_goals
      have NQ := hide (NX.out)
      clear NX QR
      go_wp2
      go_roundw
      case rel =>
       first
        | exact ⟨j + 1, 0, by omega, by go_num, rfl, by omega, by omega, NQ.out 0 (fun _ => rfl) (fun c => absurd hw c), P1, R1, B1⟩
        | exact ⟨j + 1, q + 1, by omega, by go_num, by go_num, by omega, by omega, NQ.out (q + 1) (fun c => absurd c hw) (fun _ => rfl), P1, R1, B1⟩
      case measure => simp [intOf]; omega
    ·have K1 := hide (KE.out q _ hqo i6 false e1 wr P.out)
     have H1 := hide (fun w' P' => HS.out q _ hqo true e2 w' P')
     clear HB hqo e1 e2
     go_wp2_with fail
     refine K1.out.mono ?_
     rintro e w1 ⟨rfl, hb1⟩
     have P1 := hide (P.out.below hb1)
     have R1 := hide (R.out.below hb1)
     have B1 := hide (B.out.trans (hb1.mono B.out.size))
     obtain ⟨sv1, hb1', _⟩ := P1.out.is
     obtain ⟨y0, y1, y2, y3, y4, y5, yl⟩ := hb1'.six
     clear K1 hb1 hb1' P R B r0 r1 r2 r3 r4 r5 y0 y1 y2 y3 y5
     go_wp2_with fail
     refine (H1.out w1 P1.out).mono ?_
     rintro e w2 ⟨rfl, rfl⟩
     clear H1
     rcases QR.out with hw | hw
     all_goals
      have NQ := hide (NX.out)
      clear NX QR
      go_wp2
      go_roundw
      case rel =>
       first
        | exact ⟨j + 1, 0, by omega, by go_num, rfl, by omega, by omega, NQ.out 0 (fun _ => rfl) (fun c => absurd hw c), P1, R1, B1⟩
        | exact ⟨j + 1, q + 1, by omega, by go_num, by go_num, by omega, by omega, NQ.out (q + 1) (fun c => absurd c hw) (fun _ => rfl), P1, R1, B1⟩
      case measure => simp [intOf]; omega
   ·obtain rfl : j = N := by omega
    have jN : ¬ (j : Int) < (j : Int) := by omega
    have RR := hide R.out
    have BB := hide B.out
    obtain ⟨x0, x1, x2, x3, x4, x5, xl⟩ := R.out.three
    have bs := BB.out.size
    clear KE HS HBZ hq hqo i6 P R B
    go_wp2
    have E : ∀ a1 a2 a3 : Value, Below w.heap.size w (((wr.setCell ⟨w.heap.size, 0, none⟩ a1).setCell ⟨w.heap.size, 1, none⟩ a2).setCell ⟨w.heap.size, 2, none⟩ a3) := fun a1 a2 a3 => ((BB.out.setCell (Nat.le_refl _) a1).setCell (Nat.le_refl _) a2).setCell (Nat.le_refl _) a3
    first
     | refine bodyPost_ret (v := .tuple #[av false 0 0, .int .i64 9]) (by simp [results, Tryz.results56, go_sem, World.cell?_setCell_same', World.cell?_setCell_other, *]) rfl ⟨rfl, E _ _ _⟩
     | refine bodyPost_ret (v := .tuple #[av false 0 0, .int .i64 9]) (by simp [results, Tryz.results56, go_sem, World.cell?_setCell_same', World.cell?_setCell_other, *]) rfl ⟨rfl, BB.out⟩


theorem infoAddr : (Tryz.prog.info? 26).map (fun i => (i.zero, i.size, i.bytes)) = some (some (.agg #[.bool false, .int .u64 0, .int .u64 0]), 3, 24) := by kernel_rfl

theorem MapB.head1 {W : World} {a g N : Nat} {f : Nat → Bool} (H : MapB W a g N f) : W.cell? ⟨a, 0, none⟩ = some (.int .i64 N) := by
 obtain ⟨⟨ws, hm, _⟩, _⟩ := H
 exact hm.head.cell 0

/-- The cells of the addresses of numbers. -/
def cellsU (v : Bool) (n : Nat) (f : Nat → Bool) : Nat → List Value
 | 0 => []
 | j + 1 => if f j then cellsU v n f j ++ [.bool v, .int .u64 (((n + j) / 18446744073709551616 : Nat) : Int), .int .u64 (((n + j) % 18446744073709551616 : Nat) : Int)] else cellsU v n f j

theorem num_parts {a : Nat} (h : a < 340282366920938463463374607431768211456) : IsNum ((a / 18446744073709551616 : Nat) : Int) ((a % 18446744073709551616 : Nat) : Int) a := by
 have := IsNum.ofNat (H := a / 18446744073709551616) (L := a % 18446744073709551616) (by omega) (by omega)
 rw [show a / 18446744073709551616 * 18446744073709551616 + a % 18446744073709551616 = a by omega] at this
 exact this

theorem three_new (W : World) (x y z : Value) (t : TypeId) : ∀ (j : Nat) (u : Value), [x, y, z][j]? = some u → (W.alloc (.cells #[x, y, z] t)).cell? ((⟨W.heap.size, 0, none⟩ : Addr).add j) = some u := by
 intro j u hj
 have e : ((⟨W.heap.size, 0, none⟩ : Addr).add j) = ⟨W.heap.size, j, none⟩ := by
  unfold Addr.add
  split <;> simp_all
 rw [e, (Blk.new W #[x, y, z] t).cell j]
 simpa using hj

set_option maxRecDepth 100000 in
set_option maxHeartbeats 3200000 in
theorem poUsed_c {v : Bool} {h l b : Int} {x a g n : Nat} {f : Nat → Bool} (hp : IsNum h l n) (h0 : 0 < szP v n b) {f' : Nat → Bool} (hf : (fun p => f p && !kpF (lkP v b) (szP v n b) p) = f') (w : World) (P0 : PoAt w v h l b x a g (szP v n b) f) :
  Calls Tryz.prog 25 #[.pointer (some ⟨x, 0, none⟩)] w fun e w' => ∃ sv, e = .returned sv ∧ w'.ownsRow w.heap.size 26 3 sv (cnt f' (szP v n b)) (cellsU v n f' (szP v n b)) ∧ Below w.heap.size w w' := by
 have ok := szP_ok h0
 have le := szP_le (v := v) (n := n) (b := b)
 have US := hide (used_c hp h0 w P0)
 have HT := hide (fun (j : Nat) (hj : j < szP v n b) w' hx => host_c (a := a) (x := x) hp ok hj (num_parts (host_lt hp.lt ok hj).1) w' hx)
 obtain ⟨i0, hi, hz0, hz1, hz2⟩ := info_parts infoAddr
 rw [hf] at US
 obtain ⟨N, hN⟩ : ∃ N, szP v n b = N := ⟨_, rfl⟩
 rw [hN] at US HT P0 le ⊢
 have PH := hide P0
 obtain ⟨x0, x1, x2, x3, x4, xl⟩ := P0.hd.five
 clear P0 hp h0 ok hN hf
 go_enter Tryz.func25, Tryz.ntmps25
 go_wp2_with fail
 refine US.out.mono ?_
 rintro e w1 ⟨a', g', rfl, hM, hb, ha', hg'⟩
 have M1 := hide hM
 have P1 := hide (PH.out.below hb)
 have B1 := hide hb
 have SZ := hide (size_c a' N w1 hM.head1)
 clear US hM hb PH x0 x1 x2 x3 x4
 go_wp2_with fail
 refine SZ.out.mono ?_
 rintro e w1 ⟨rfl, rfl⟩
 clear SZ
 go_wp2_with fail
 go_loopw [3, 12] (fun u i wr => ∃ j : Nat, j ≤ N ∧ i = .int .i64 j ∧ Hid (wr.ownsRow w1.heap.size 26 3 u (cnt f' j) (cellsU v n f' j)) ∧ Below w1.heap.size w1 wr) (fun _ i _ => N - (intOf i).toNat)
 case atStart => exact ⟨0, by omega, rfl, World.ownsRow_nil _ _ _ _, Below.refl _ _⟩
 case round =>
  obtain ⟨j, hj, rfl, hown, hb⟩ := hrel
  have hs := hb.size
  by_cases hlt : j < N
  ·have hlt' : (j : Int) < N := by omega
   have HA := hide (bhas_ok a' g' N j f' hlt wr (M1.out.below hb))
   have cj : cnt f' j ≤ j := cnt_le _ _
   cases hfj : f' j
   ·rw [hfj] at HA
    have e1 : Hid (cnt f' (j + 1) = cnt f' j ∧ cellsU v n f' (j + 1) = cellsU v n f' j) := by
     constructor
     ·simp [cnt, hfj]
     ·simp [cellsU, hfj]
    clear hfj
    go_wp2_with fail
    refine HA.out.mono ?_
    rintro e w3 ⟨rfl, hb3⟩
    have O3 := hide (own_below hown.out hb3)
    have B3 := hb.trans (hb3.mono hs)
    clear HA hown hb3 hb
    go_wp2
    go_roundw
    case rel => exact ⟨j + 1, by omega, by go_num, by rw [e1.out.1, e1.out.2]; exact O3, B3⟩
    case measure => simp [intOf]; omega
   ·rw [hfj] at HA
    have e1 : Hid (cnt f' (j + 1) = cnt f' j + 1 ∧ cellsU v n f' (j + 1) = cellsU v n f' j ++ [.bool v, .int .u64 (((n + j) / 18446744073709551616 : Nat) : Int), .int .u64 (((n + j) % 18446744073709551616 : Nat) : Int)]) := by
     constructor
     ·simp [cnt, hfj]
     ·simp [cellsU, hfj]
    obtain ⟨ah, hah⟩ : ∃ ah : Int, (((n + j) / 18446744073709551616 : Nat) : Int) = ah := ⟨_, rfl⟩
    obtain ⟨al, hal⟩ : ∃ al : Int, (((n + j) % 18446744073709551616 : Nat) : Int) = al := ⟨_, rfl⟩
    have HJ := HT.out j hlt
    rw [hah, hal] at e1 HJ
    have HJH := hide HJ
    clear hfj hah hal HJ
    go_wp2_with fail
    refine HA.out.mono ?_
    rintro e w3 ⟨rfl, hb3⟩
    have O3 := hide (own_below hown.out hb3)
    have B3 := hide (hb.trans (hb3.mono hs))
    have HOW := hide (HJH.out w3 (P1.out.below B3.out).hd)
    clear HA hown hb3 hb hs HJH
    go_wp2_with fail
    refine HOW.out.mono ?_
    rintro e w4 ⟨rfl, hb4⟩
    have O4 := hide (own_below O3.out hb4)
    have B4 := hide (B3.out.trans (hb4.mono B3.out.size))
    have hs4 : w1.heap.size ≤ w4.heap.size := B4.out.size
    have N4 := three_new w4 (.bool v) (.int .u64 ah) (.int .u64 al) 26
    have hone : ∀ u ∈ [Value.bool v, .int .u64 ah, .int .u64 al], u.oneCell' = true := by
     intro u hu
     simp at hu
     rcases hu with rfl | rfl | rfl <;> rfl
    clear HOW O3 B3 hb4
    go_wp2_with (first | (at_builtin; refine wpList_append_own _ rfl _ _ 55 rfl w1.heap.size 26 i0 (.agg #[.bool false, .int .u64 0, .int .u64 0]) 3 24 Tryz.underlying55 hi hz0 hz1 hz2 rfl (by decide) _ _ _ rfl (O4.out.alloc _) ⟨w4.heap.size, 0, none⟩ 1 1 [.bool v, .int .u64 ah, .int .u64 al] rfl rfl N4 hone ?c3 ?c4 ?c5 ?_))
    case c3 => unfold maxLen; omega
    case c4 => omega
    case c5 => simp; omega
    intro v' w5 hown5 hgrow _
    have B5 : Below w1.heap.size w1 w5 := below_grown B4.out hs4 O4.out hgrow
    have O5 := hide hown5
    clear O4 B4 hown5 hgrow N4 hone
    go_wp2
    go_roundw
    case rel => exact ⟨j + 1, by omega, by go_num, by rw [e1.out.1, e1.out.2]; exact O5, B5⟩
    case measure => simp [intOf]; omega
  ·obtain rfl : j = N := by omega
   have hlt' : ¬ (j : Int) < j := by omega
   have O6 : Hid (wr.ownsRow w.heap.size 26 3 u3 (cnt f' j) (cellsU v n f' j)) := by
    refine ⟨hown.out.1, ?_⟩
    rcases hown.out.2 with q | ⟨g2, cap, cur, q1, q2, q3⟩
    ·exact Or.inl q
    ·exact Or.inr ⟨g2, cap, cur, q1, Nat.le_trans B1.out.size q2, q3⟩
   have B6 := hide (B1.out.trans (hb.mono B1.out.size))
   clear hown hb hs
   go_wp2
   go_ret
   exact ⟨_, rfl, O6.out, B6.out⟩


theorem cell_in {W : World} {b o : Nat} {v : Value} (h : W.cell? ⟨b, o, none⟩ = some v) : b < W.heap.size := by
 apply Classical.byContradiction
 intro c
 simp only [World.cell?] at h
 rw [Array.getElem?_eq_none (by omega)] at h
 cases h

/-- The cells of addresses. -/
def cellsG (v : Bool) (n : Nat) : List Nat → List Value
 | [] => []
 | p :: r => .bool v :: .int .u64 (((n + p) / 18446744073709551616 : Nat) : Int) :: .int .u64 (((n + p) % 18446744073709551616 : Nat) : Int) :: cellsG v n r

theorem cellsG_add (v : Bool) (n : Nat) : ∀ (l : List Nat) (p : Nat), cellsG v n (l ++ [p]) = cellsG v n l ++ [.bool v, .int .u64 (((n + p) / 18446744073709551616 : Nat) : Int), .int .u64 (((n + p) % 18446744073709551616 : Nat) : Int)]
 | [], p => rfl
 | q :: r, p => by
  show _ :: _ :: _ :: cellsG v n (r ++ [p]) = _
  rw [cellsG_add v n r p]
  rfl

theorem cellsG_at (v : Bool) (n : Nat) : ∀ (l : List Nat) (j : Nat) (h : j < l.length), (cellsG v n l)[j * 3]? = some (.bool v) ∧ (cellsG v n l)[j * 3 + 1]? = some (.int .u64 (((n + l[j]) / 18446744073709551616 : Nat) : Int)) ∧ (cellsG v n l)[j * 3 + 2]? = some (.int .u64 (((n + l[j]) % 18446744073709551616 : Nat) : Int))
 | [], j, h => absurd h (by simp)
 | p :: r, 0, h => ⟨rfl, rfl, rfl⟩
 | p :: r, j + 1, h => by
  obtain ⟨h0, h1, h2⟩ := cellsG_at v n r j (by simpa using h)
  have e : (j + 1) * 3 = j * 3 + 3 := by omega
  rw [e]
  exact ⟨h0, h1, h2⟩

theorem cnt_diff {f f0 : Nat → Bool} : ∀ N, (∀ p, f0 p = true → f p = true) → cnt (fun p => f p && !f0 p) N + cnt f0 N = cnt f N
 | 0, _ => rfl
 | N + 1, h => by
  have ih := cnt_diff N h
  have key : ∀ x y : Bool, (y = true → x = true) → (if (x && !y) = true then 1 else 0) + (if y = true then 1 else 0) = (if x = true then (1 : Nat) else 0) := by
   intro x y hxy
   cases x <;> cases y <;> simp_all
  simp only [cnt]
  rw [Nat.add_add_add_comm, ih, key _ _ (h N)]

end Go.Proofs.YtgbpnekinbdadaaGreatDoor
