/-
  Texts Pfx7, Carve1 of the proof.
-/
import Derived.Deep.DeepCutAuto
import Derived.Test.YtgbpnekinbdadaaGreatDoorPQ28
import Derived.Test.YtgbpnekinbdadaaGreatDoorPQ23
import Derived.Test.YtgbpnekinbdadaaGreatDoorPQ19
import Derived.Test.YtgbpnekinbdadaaGreatDoorPQ0

namespace Go.Proofs.YtgbpnekinbdadaaGreatDoor
open Go.ChangeShapes Go.WideShapes Go.ChangeAt Go.RowKit
set_option linter.unusedVariables false
set_option linter.unusedSimpArgs false

/-- The prefix of a text. -/
def parsePF (l : List UInt8) : Option (Bool × Nat × Nat) :=
 match parseF (cutG [47] l).1 with
 | none => none
 | some (v, a) => match decV (cutG [47] l).2.1 with
  | none => none
  | some n => if okP v a (n : Int) = true then some (v, a, n) else none

/-- What Parse answers. -/
def PParseIs (s : List UInt8) (v : Bool) (h l b c : Int) : Prop := (∃ a k, parsePF s = some (v, a, k) ∧ IsNum h l a ∧ b = (k : Nat) ∧ c = 0) ∨ (parsePF s = none ∧ v = false ∧ h = 0 ∧ l = 0 ∧ b = 0 ∧ c = 4)

theorem PParseIs.uniq {s : List UInt8} {v v' : Bool} {h l b c h' l' b' c' : Int} (x : PParseIs s v h l b c) (y : PParseIs s v' h' l' b' c') : v = v' ∧ h = h' ∧ l = l' ∧ b = b' ∧ c = c' := by
 rcases x with ⟨n, k, h1, h2, h3, h4⟩ | ⟨h1, h2, h3, h4, h5, h6⟩ <;> rcases y with ⟨m, j, k1, k2, k3, k4⟩ | ⟨k1, k2, k3, k4, k5, k6⟩
 ·rw [h1] at k1
  obtain ⟨rfl, h7⟩ := Prod.mk.inj (Option.some.inj k1)
  obtain ⟨rfl, rfl⟩ := Prod.mk.inj h7
  obtain ⟨rfl, rfl⟩ := h2.uniq k2
  exact ⟨rfl, rfl, rfl, by omega, by omega⟩
 ·rw [h1] at k1; cases k1
 ·rw [h1] at k1; cases k1
 ·exact ⟨by rw [h2, k2], by omega, by omega, by omega, by omega⟩

/-- What num.Parse answers of the digits. -/
def BitsIs (l : List UInt8) (vh vl ec : Int) : Prop :=
 (ec = 0 ∧ ∃ n, IsNum vh vl n ∧ decV l = (if n < 256 then some n else none)) ∨ ((ec = 4 ∨ ec = 11) ∧ decV l = none)

theorem bits_part (t : ByteArray) (hs : t.size ≤ 1000000) (w : World) :
  Calls Tryz.prog 32 #[.string t] w fun e w' => ∃ vh vl ec : Int, e = .returned (.tuple #[nv vh vl, .int .i64 ec]) ∧ Hid (BitsIs t.data.toList vh vl ec) ∧ Below w.heap.size w w' := by
 have ht : (⟨t.data.toList.toArray⟩ : ByteArray) = t := rfl
 have hl : t.data.toList.length = t.size := by simp
 by_cases hp : Printed t
 ·have hv : decV t.data.toList = if valN t t.size < 256 then some (valN t t.size) else none := by
   unfold decV
   rw [ht, hl]
   by_cases h : valN t t.size < 256
   ·rw [if_pos ⟨hp, h⟩, if_pos h]
   ·rw [if_neg (fun c => h c.2), if_neg h]
  by_cases h39 : 39 < t.size
  ·refine (parse_long t hs hp h39 w).mono ?_
   rintro e w' ⟨rfl, hb⟩
   refine ⟨0, 0, 11, rfl, Or.inr ⟨by omega, ?_⟩, hb⟩
   have := valN_ge t hp t.size (by omega) (Nat.le_refl _) (by omega)
   have p : 10 ^ 39 ≤ 10 ^ (t.size - 1) := Nat.pow_le_pow_right (by decide) (by omega)
   have q : (10 : Nat) ^ 39 = 1000000000000000000000000000000000000000 := by decide
   rw [hv, if_neg (by omega)]
  ·refine (parse_dig t hp (by omega) w).mono ?_
   rintro e w' (⟨h, l, rfl, hn, hb⟩ | ⟨hbig, rfl, hb⟩)
   ·exact ⟨h, l, 0, rfl, Or.inl ⟨rfl, _, hn, hv⟩, hb⟩
   ·exact ⟨0, 0, 11, rfl, Or.inr ⟨by omega, by rw [hv, if_neg (by omega)]⟩, hb⟩
 ·refine (parse_form t hs hp w).mono ?_
  rintro e w' ⟨rfl, hb⟩
  refine ⟨0, 0, 4, rfl, Or.inr ⟨by omega, ?_⟩, hb⟩
  unfold decV
  rw [ht, if_neg (fun c => hp c.1)]

/-- An address's block and a number's, that are read. -/
def AN (A N : Nat) (v : Bool) (h l nh nl : Int) (wx : World) : Prop :=
 (wx.cell? ⟨A, 0, none⟩ = some (.bool v) ∧ wx.cell? ⟨A, 1, none⟩ = some (.int .u64 h) ∧ wx.cell? ⟨A, 2, none⟩ = some (.int .u64 l) ∧ wx.cell? ⟨N, 0, none⟩ = some (.int .u64 nh) ∧ wx.cell? ⟨N, 1, none⟩ = some (.int .u64 nl)) ∧ Blk wx A #[.bool v, .int .u64 h, .int .u64 l] 26 ∧ Blk wx N #[.int .u64 nh, .int .u64 nl] 24

theorem AN.of {A N : Nat} {v : Bool} {h l nh nl : Int} {wx : World} (x : Blk wx A #[.bool v, .int .u64 h, .int .u64 l] 26) (y : Blk wx N #[.int .u64 nh, .int .u64 nl] 24) : AN A N v h l nh nl wx :=
 ⟨⟨x.cell 0, x.cell 1, x.cell 2, y.cell 0, y.cell 1⟩, x, y⟩

theorem AN.drew {A N : Nat} {v : Bool} {h l nh nl : Int} {wx : World} (s : AN A N v h l nh nl wx) : AN A N v h l nh nl wx.drew := s

theorem AN.below {A N : Nat} {v : Bool} {h l nh nl : Int} {wx w1 : World} (s : AN A N v h l nh nl wx) (hb : Below wx.heap.size wx w1) : AN A N v h l nh nl w1 := AN.of (s.2.1.below hb) (s.2.2.below hb)

/-- What Parse keeps. -/
def PZ (w : World) (A N : Nat) (v : Bool) (h l nh nl : Int) (wr : World) : Prop :=
 Blk wr w.heap.size #[.bool false, .int .u64 0, .int .u64 0, .int .i64 0] 28 ∧ Blk wr A #[.bool v, .int .u64 h, .int .u64 l] 26 ∧ Blk wr N #[.int .u64 nh, .int .u64 nl] 24 ∧ Below w.heap.size w wr

theorem PZ.via {w W W0 w1 : World} {A N : Nat} {v : Bool} {h l nh nl : Int} (s : PZ w A N v h l nh nl W0) (hb : Below W.heap.size W w1) (e : W.heap = W0.heap) (e1 : W.os = W0.os) (e2 : W.tape = W0.tape) (e3 : W.output = W0.output) : PZ w A N v h l nh nl w1 := ⟨s.1.via hb e, s.2.1.via hb e, s.2.2.1.via hb e, Below.via hb s.2.2.2 (Nat.le_refl _) e e1 e2 e3⟩

set_option maxRecDepth 100000 in
set_option maxHeartbeats 3200000 in
/-- Parse: the prefix that a text is read as. -/
theorem pparse_c (S : ByteArray) (hS : S.size ≤ 1000000) (w : World) (hL : LW w) :
  Calls Tryz.prog 6 #[.string S] w fun e w' => ∃ (v : Bool) (h l b c : Int), e = .returned (.tuple #[pv v h l b, .int .i64 c]) ∧ Hid (PParseIs S.data.toList v h l b c) ∧ Below w.heap.size w w' := by
 have hz := hL.sz
 have Lx : Hid (∀ W, Below w.heap.size w W → LW W) := fun W hb => hL.of hb hz
 have cl := cutG_len [47] (by simp) S.data.toList
 have hSl : S.data.toList.length ≤ 1000000 := by simpa using hS
 have CU : ∀ w', LW w' → Calls Tryz.prog 30 #[.string S, .string ⟨#[47]⟩] w' fun e w1 => e = .returned (.tuple #[.string ⟨(cutG [47] S.data.toList).1.toArray⟩, .string ⟨(cutG [47] S.data.toList).2.1.toArray⟩, .bool (cutG [47] S.data.toList).2.2]) ∧ Below w'.heap.size w' w1 := fun w' h => cut_c S ⟨#[47]⟩ (by simp) hS w' h
 obtain ⟨T, hT⟩ : ∃ T : ByteArray, T = ⟨(cutG [47] S.data.toList).1.toArray⟩ := ⟨_, rfl⟩
 obtain ⟨D, hD⟩ : ∃ D : ByteArray, D = ⟨(cutG [47] S.data.toList).2.1.toArray⟩ := ⟨_, rfl⟩
 have hTl : T.data.toList = (cutG [47] S.data.toList).1 := by rw [hT]
 have hDl : D.data.toList = (cutG [47] S.data.toList).2.1 := by rw [hD]
 have sT : T.size ≤ 1000000 := by rw [hT]; simp [ByteArray.size]; omega
 have sD : D.size ≤ 1000000 := by rw [hD]; simp [ByteArray.size]; omega
 have hPF : parsePF S.data.toList = match parseF T.data.toList with
  | none => none
  | some (v, a) => match decV D.data.toList with
   | none => none
   | some n => if okP v a (n : Int) = true then some (v, a, n) else none := by rw [hTl, hDl]; rfl
 rw [← hT, ← hD] at CU
 obtain ⟨M, hM⟩ : ∃ M, M = (cutG [47] S.data.toList).2.2 := ⟨_, rfl⟩
 rw [← hM] at CU
 have CUH : Hid _ := CU
 have AP : Hid (∀ w', LW w' → Calls Tryz.prog 31 #[.string T] w' fun e w1 => ∃ (v : Bool) (h l c : Int), e = .returned (.tuple #[av v h l, .int .i64 c]) ∧ Hid (ParseIs T.data.toList v h l c) ∧ Below w'.heap.size w' w1) := fun w' h => aparse_c T sT w' h
 have NP : Hid (∀ w', Calls Tryz.prog 32 #[.string D] w' fun e w1 => ∃ vh vl ec : Int, e = .returned (.tuple #[nv vh vl, .int .i64 ec]) ∧ Hid (BitsIs D.data.toList vh vl ec) ∧ Below w'.heap.size w' w1) := fun w' => bits_part D sD w'
 obtain ⟨PI, hPI⟩ : ∃ PI, PParseIs S.data.toList = PI := ⟨_, rfl⟩
 have NO : Hid (parsePF S.data.toList = none → PI false 0 0 0 4) := fun h => by rw [← hPI]; exact Or.inr ⟨h, rfl, rfl, rfl, rfl, rfl⟩
 have YES : Hid (∀ v h l b a k, parsePF S.data.toList = some (v, a, k) → IsNum h l a → b = ((k : Nat) : Int) → PI v h l b 0) := fun v h l b a k h1 h2 h3 => by rw [← hPI]; exact Or.inl ⟨a, k, h1, h2, h3, rfl⟩
 rw [hPI]
 generalize parsePF S.data.toList = R at *
 generalize T.data.toList = TL at *
 generalize D.data.toList = DL at *
 have hPFH : Hid _ := hPF
 clear hPF CU hPI hT hD hTl hDl hM cl hSl hL hS sT sD
 go_enter Tryz.func6, Tryz.ntmps6
 go_wp2_with fail
 refine (CUH.out _ (Lx.out _ (by repeat (first | with_reducible exact Below.refl _ _ | with_reducible refine Below.drew ?_ | with_reducible refine Below.alloc ?_ (by first | omega | (simp <;> omega)) _ | with_reducible refine Below.setCell ?_ (by first | omega | (simp <;> omega)) _)))).mono ?_
 rintro e w1 ⟨rfl, hb1⟩
 have R1 : Blk w1 w.heap.size #[.bool false, .int .u64 0, .int .u64 0, .int .i64 0] 28 := (Blk.new _ _ _).below hb1
 have B1 : Below w.heap.size w w1 := by repeat (first | with_reducible exact Below.refl _ _ | with_reducible refine Below.drew ?_ | with_reducible refine Below.alloc ?_ (by first | omega | (simp <;> omega)) _ | with_reducible refine Below.setCell ?_ (by first | omega | (simp <;> omega)) _ | with_reducible refine Below.trans ?_ (Below.mono hb1 (by first | omega | (simp <;> omega))))
 clear hb1 CUH
 go_wp2_with fail
 refine (AP.out _ (Lx.out _ B1)).mono ?_
 rintro e w2 ⟨v, h, l, c, rfl, hp, hb2⟩
 have R2 := R1.below hb2
 have B2 : Below w.heap.size w w2 := B1.trans (hb2.mono B1.size)
 clear hb2 R1 B1 AP
 rcases hp.out with ⟨a, hpa, ha, rfl⟩ | ⟨hpn, rfl, rfl, rfl, rfl⟩
 rotate_left
 ·have gx : Hid (PI false 0 0 0 4) := NO.out (by rw [hPFH.out, hpn])
  obtain ⟨r0, r1, r2, r3, r4, r5, r6, r7, r8⟩ := R2.four
  clear hp hpn hPFH NO YES NP
  go_wp2
  refine bodyPost_ret (v := .tuple #[pv false 0 0 0, .int .i64 4]) (by simp [results, Tryz.results6, go_sem, World.cell?_setCell_same', World.cell?_setCell_other, *]) rfl ⟨false, 0, 0, 0, 4, rfl, gx, by repeat (first | with_reducible exact Below.refl _ _ | with_reducible refine Below.drew ?_ | with_reducible refine Below.alloc ?_ (by first | omega | (simp <;> omega)) _ | with_reducible refine Below.setCell ?_ (by first | omega | (simp <;> omega)) _ | with_reducible refine Below.trans ?_ (Below.mono B2 (by first | omega | (simp <;> omega))))⟩
 ·have R3 := R2.alloc (.cells #[.bool v, .int .u64 h, .int .u64 l] 26)
  have A3 : Blk (w2.alloc (.cells #[.bool v, .int .u64 h, .int .u64 l] 26)) w2.heap.size #[.bool v, .int .u64 h, .int .u64 l] 26 := Blk.new _ _ _
  have B3 : Below w.heap.size w (w2.alloc (.cells #[.bool v, .int .u64 h, .int .u64 l] 26)) := B2.alloc (Nat.le_of_lt R2.lt) _
  clear hp
  go_wp2_with fail
  refine (NP.out _).mono ?_
  rintro e w4 ⟨nh, nl, ec, rfl, hq, hb4⟩
  have R4 := R3.below hb4
  have A4 := A3.below hb4
  have B4 : Below w.heap.size w w4 := B3.trans (hb4.mono B3.size)
  clear hb4 R2 R3 A3 B2 B3 NP
  go_upto_region 6 with fail
  have S0 : AN w2.heap.size w4.heap.size v h l nh nl (w4.alloc (.cells #[.int .u64 nh, .int .u64 nl] 24)) := AN.of (A4.alloc _) (Blk.new _ _ _)
  have Z4 : PZ w w2.heap.size w4.heap.size v h l nh nl (w4.alloc (.cells #[.int .u64 nh, .int .u64 nl] 24)) := ⟨R4.alloc _, A4.alloc _, Blk.new _ _ _, B4.alloc (Nat.le_of_lt R4.lt) _⟩
  clear R4 A4 B4
  rcases hq.out with ⟨rfl, n, hn, hd⟩ | ⟨hec, hd⟩
  rotate_left
  ·have gx : Hid (PI false 0 0 0 4) := NO.out (by rw [hPFH.out, hpa, hd])
   clear hq hd hpa ha hPFH NO YES
   obtain ⟨r0, r1, r2, r3, r4, r5, r6, r7, r8⟩ := Z4.1.four
   have B4 := Z4.2.2.2
   rcases hec with rfl | rfl
   ·refine wp_region_held_drew (S := (AN w2.heap.size w4.heap.size v h l nh nl)) (by kernel_rfl) ?hS100 (fun hHeld => ?rest100)
    case hS100 => with_reducible exact S0.drew
    refine w8 0 ?_ (ga7 rfl) (by kernel_rfl) (fun _ _ _ h => h) ⟨by rfl, ?y101⟩ hHeld ?_
    case y101 => (intro wq hSw; (try simp only [Two, AN] at hSw); go_simp; try with_reducible rfl)
    try simp only [Act.put, a7, b7, c7]
    refine w8 1 ?_ (ga7 rfl) (by kernel_rfl) (fun _ _ _ h => h) ⟨by rfl, ?y102⟩ hHeld ?_
    case y102 => (intro wq hSw; (try simp only [Two, AN] at hSw); go_simp; try with_reducible rfl)
    try simp only [Act.put, a7, b7, c7]
    refine w8 2 ?_ (ga7 rfl) (by kernel_rfl) (fun _ _ _ h => h) ⟨by rfl, ?y103⟩ hHeld ?_
    case y103 => (intro wq hSw; (try simp only [Two, AN] at hSw); go_simp; try with_reducible rfl)
    try simp only [Act.put, a7, b7, c7]
    refine wpAnyH_take (i := 3) (oi := _) (v := undef) (ga7 rfl) (by kernel_rfl) (by kernel_rfl) (by kernel_rfl) (fun _ _ _ h => h) (Or.inr ⟨by rfl, rfl⟩) (by assumption) ?rest104
    try simp only [Act.put, a7, b7, c7]
    refine wpAnyH_take (i := 4) (oi := _) (v := undef) (ga7 rfl) (by kernel_rfl) (by kernel_rfl) (by kernel_rfl) (fun _ _ _ h => h) (Or.inr ⟨by rfl, rfl⟩) (by assumption) ?rest105
    try simp only [Act.put, a7, b7, c7]
    refine wpAnyH_take (i := 5) (oi := _) (v := undef) (ga7 rfl) (by kernel_rfl) (by kernel_rfl) (by kernel_rfl) (fun _ _ _ h => h) (Or.inr ⟨by rfl, rfl⟩) (by assumption) ?rest106
    try simp only [Act.put, a7, b7, c7]
    refine wpAnyH_take (i := 6) (oi := _) (v := undef) (ga7 rfl) (by kernel_rfl) (by kernel_rfl) (by kernel_rfl) (fun _ _ _ h => h) (Or.inr ⟨by rfl, rfl⟩) (by assumption) ?rest107
    try simp only [Act.put, a7, b7, c7]
    refine wpAnyH_take (i := 7) (oi := _) (v := undef) (ga7 rfl) (by kernel_rfl) (by kernel_rfl) (by kernel_rfl) (fun _ _ _ h => h) (Or.inr ⟨by rfl, rfl⟩) (by assumption) ?rest108
    try simp only [Act.put, a7, b7, c7]
    refine wpAnyH_take (i := 8) (oi := _) (v := undef) (ga7 rfl) (by kernel_rfl) (by kernel_rfl) (by kernel_rfl) (fun _ _ _ h => h) (Or.inr ⟨by rfl, rfl⟩) (by assumption) ?rest109
    try simp only [Act.put, a7, b7, c7]
    refine wpAnyH_take (i := 9) (oi := _) (v := undef) (ga7 rfl) (by kernel_rfl) (by kernel_rfl) (by kernel_rfl) (fun _ _ _ h => h) (Or.inr ⟨by rfl, rfl⟩) (by assumption) ?rest110
    try simp only [Act.put, a7, b7, c7]
    refine w8 10 ?_ (ga7 rfl) (by kernel_rfl) (fun _ _ _ h => h) ⟨by rfl, ?y111⟩ hHeld ?_
    case y111 => (intro wq hSw; (try simp only [Two, AN] at hSw); go_simp; try with_reducible rfl)
    try simp only [Act.put, a7, b7, c7]
    refine wpAnyH_done (by kernel_rfl) ?fin100 _
    go_wp2
    refine bodyPost_ret (v := .tuple #[pv false 0 0 0, .int .i64 4]) (by simp [results, Tryz.results6, go_sem, World.cell?_setCell_same', World.cell?_setCell_other, *]) rfl ⟨false, 0, 0, 0, 4, rfl, gx, by repeat (first | with_reducible exact Below.refl _ _ | with_reducible refine Below.drew ?_ | with_reducible refine Below.alloc ?_ (by first | omega | (simp <;> omega)) _ | with_reducible refine Below.setCell ?_ (by first | omega | (simp <;> omega)) _ | with_reducible refine Below.trans ?_ (Below.mono B4 (by first | omega | (simp <;> omega))))⟩
   ·refine wp_region_held_drew (S := (AN w2.heap.size w4.heap.size v h l nh nl)) (by kernel_rfl) ?hS200 (fun hHeld => ?rest200)
    case hS200 => with_reducible exact S0.drew
    refine w8 0 ?_ (ga7 rfl) (by kernel_rfl) (fun _ _ _ h => h) ⟨by rfl, ?y201⟩ hHeld ?_
    case y201 => (intro wq hSw; (try simp only [Two, AN] at hSw); go_simp; try with_reducible rfl)
    try simp only [Act.put, a7, b7, c7]
    refine w8 1 ?_ (ga7 rfl) (by kernel_rfl) (fun _ _ _ h => h) ⟨by rfl, ?y202⟩ hHeld ?_
    case y202 => (intro wq hSw; (try simp only [Two, AN] at hSw); go_simp; try with_reducible rfl)
    try simp only [Act.put, a7, b7, c7]
    refine w8 2 ?_ (ga7 rfl) (by kernel_rfl) (fun _ _ _ h => h) ⟨by rfl, ?y203⟩ hHeld ?_
    case y203 => (intro wq hSw; (try simp only [Two, AN] at hSw); go_simp; try with_reducible rfl)
    try simp only [Act.put, a7, b7, c7]
    refine wpAnyH_take (i := 3) (oi := _) (v := undef) (ga7 rfl) (by kernel_rfl) (by kernel_rfl) (by kernel_rfl) (fun _ _ _ h => h) (Or.inr ⟨by rfl, rfl⟩) (by assumption) ?rest204
    try simp only [Act.put, a7, b7, c7]
    refine wpAnyH_take (i := 4) (oi := _) (v := undef) (ga7 rfl) (by kernel_rfl) (by kernel_rfl) (by kernel_rfl) (fun _ _ _ h => h) (Or.inr ⟨by rfl, rfl⟩) (by assumption) ?rest205
    try simp only [Act.put, a7, b7, c7]
    refine wpAnyH_take (i := 5) (oi := _) (v := undef) (ga7 rfl) (by kernel_rfl) (by kernel_rfl) (by kernel_rfl) (fun _ _ _ h => h) (Or.inr ⟨by rfl, rfl⟩) (by assumption) ?rest206
    try simp only [Act.put, a7, b7, c7]
    refine wpAnyH_take (i := 6) (oi := _) (v := undef) (ga7 rfl) (by kernel_rfl) (by kernel_rfl) (by kernel_rfl) (fun _ _ _ h => h) (Or.inr ⟨by rfl, rfl⟩) (by assumption) ?rest207
    try simp only [Act.put, a7, b7, c7]
    refine wpAnyH_take (i := 7) (oi := _) (v := undef) (ga7 rfl) (by kernel_rfl) (by kernel_rfl) (by kernel_rfl) (fun _ _ _ h => h) (Or.inr ⟨by rfl, rfl⟩) (by assumption) ?rest208
    try simp only [Act.put, a7, b7, c7]
    refine wpAnyH_take (i := 8) (oi := _) (v := undef) (ga7 rfl) (by kernel_rfl) (by kernel_rfl) (by kernel_rfl) (fun _ _ _ h => h) (Or.inr ⟨by rfl, rfl⟩) (by assumption) ?rest209
    try simp only [Act.put, a7, b7, c7]
    refine wpAnyH_take (i := 9) (oi := _) (v := undef) (ga7 rfl) (by kernel_rfl) (by kernel_rfl) (by kernel_rfl) (fun _ _ _ h => h) (Or.inr ⟨by rfl, rfl⟩) (by assumption) ?rest210
    try simp only [Act.put, a7, b7, c7]
    refine w8 10 ?_ (ga7 rfl) (by kernel_rfl) (fun _ _ _ h => h) ⟨by rfl, ?y211⟩ hHeld ?_
    case y211 => (intro wq hSw; (try simp only [Two, AN] at hSw); go_simp; try with_reducible rfl)
    try simp only [Act.put, a7, b7, c7]
    refine wpAnyH_done (by kernel_rfl) ?fin200 _
    go_wp2
    refine bodyPost_ret (v := .tuple #[pv false 0 0 0, .int .i64 4]) (by simp [results, Tryz.results6, go_sem, World.cell?_setCell_same', World.cell?_setCell_other, *]) rfl ⟨false, 0, 0, 0, 4, rfl, gx, by repeat (first | with_reducible exact Below.refl _ _ | with_reducible refine Below.drew ?_ | with_reducible refine Below.alloc ?_ (by first | omega | (simp <;> omega)) _ | with_reducible refine Below.setCell ?_ (by first | omega | (simp <;> omega)) _ | with_reducible refine Below.trans ?_ (Below.mono B4 (by first | omega | (simp <;> omega))))⟩
  ·have hw2 := width_le v
   obtain ⟨W, hW⟩ : ∃ W, widthA v = W := ⟨_, rfl⟩
   have CW : Hid (∀ w', Calls Tryz.prog 35 #[av v h l] w' fun e w1 => e = .returned (.int .i64 W) ∧ Below w'.heap.size w' w1) := fun w' => width_lit v W hW h l w'
   have hu : IntKind.u64.wrap W = W := by simp [IntKind.wrap, IntKind.bits, IntKind.signed]; omega
   have isW : IsNum 0 W W.toNat := ⟨by omega, by omega, by omega, by omega, by omega⟩
   obtain ⟨k, hk⟩ : ∃ k, k = cmpI (n : Int) (W.toNat : Int) := ⟨_, rfl⟩
   have CC : Hid (∀ w', Calls Tryz.prog 33 #[nv nh nl, nv 0 W] w' fun e w1 => e = .returned (.int .i64 k) ∧ Below w'.heap.size w' w1) := fun w' => by
    refine (cmp_c hn isW w').mono ?_
    rintro e w1 ⟨k', rfl, hk', hb'⟩
    exact ⟨by rw [hk', hk], hb'⟩
   clear hq
   by_cases big : W < (n : Int)
   ·have gx : Hid (PI false 0 0 0 4) := NO.out (by
     rw [hPFH.out, hpa, hd]
     by_cases h2 : n < 256
     ·rw [if_pos h2]
      have : okP v a (n : Int) = false := by
       cases hx : okP v a (n : Int)
       ·rfl
       ·have := (fitsB_parts (okP_parts hx).1).2.2
        omega
      simp [this]
     ·rw [if_neg h2])
    obtain rfl : k = 1 := by rw [hk]; exact cmpI_gt (by omega)
    clear hk hd hpa ha hPFH NO YES big hW hw2 isW hn
    refine wp_region_held_drew (S := (AN w2.heap.size w4.heap.size v h l nh nl)) (by kernel_rfl) ?hS300 (fun hHeld => ?rest300)
    case hS300 => with_reducible exact S0.drew
    refine w8 0 ?_ (ga7 rfl) (by kernel_rfl) (fun _ _ _ h => h) ⟨by rfl, ?y301⟩ hHeld ?_
    case y301 => (intro wq hSw; (try simp only [Two, AN] at hSw); go_simp; try with_reducible rfl)
    try simp only [Act.put, a7, b7, c7]
    refine w8 1 ?_ (ga7 rfl) (by kernel_rfl) (fun _ _ _ h => h) ⟨by rfl, ?y302⟩ hHeld ?_
    case y302 => (intro wq hSw; (try simp only [Two, AN] at hSw); go_simp; try with_reducible rfl)
    try simp only [Act.put, a7, b7, c7]
    refine w8 2 ?_ (ga7 rfl) (by kernel_rfl) (fun _ _ _ h => h) ⟨by rfl, ?y303⟩ hHeld ?_
    case y303 => (intro wq hSw; (try simp only [Two, AN] at hSw); go_simp; try with_reducible rfl)
    try simp only [Act.put, a7, b7, c7]
    refine w8 3 ?_ (ga7 rfl) (by kernel_rfl) (fun _ _ _ h => h) ⟨by rfl, ?y304⟩ hHeld ?_
    case y304 => (intro wq hSw; (try simp only [Two, AN] at hSw); go_simp; try with_reducible rfl)
    try simp only [Act.put, a7, b7, c7]
    refine w8 4 ?_ (ga7 rfl) (by kernel_rfl) (fun _ _ _ h => h) ⟨by rfl, ?y305⟩ hHeld ?_
    case y305 => (intro wq hSw; (try simp only [Two, AN] at hSw); go_simp; try with_reducible rfl)
    try simp only [Act.put, a7, b7, c7]
    refine wpAnyH_ready (rs := [5]) (by kernel_rfl) (by simp) ?rdy306
    refine AllReadyH.cons (ga7 rfl) (fun K hK => ?stp306) AllReadyH.nil
    go_simp
    go_wp2_with fail
    (refine (CW.out _).mono ?_; rintro e w5 ⟨rfl, hb5⟩; have Z5 := Z4.via hb5 rfl rfl rfl rfl)
    go_wp2_with fail
    refine hK.out _ _ ?hSn306 (fun hHeld2 => ?rest306)
    case hSn306 => with_reducible exact hHeld.below hb5
    clear hK K hHeld
    have hHeld := hHeld2
    clear hHeld2
    try simp only [Act.put, a7, b7, c7]
    refine w8 6 ?_ (ga7 rfl) (by kernel_rfl) (fun _ _ _ h => h) ⟨by rfl, ?y307⟩ hHeld ?_
    case y307 => (intro wq hSw; (try simp only [Two, AN] at hSw); go_simp; try with_reducible rfl)
    try simp only [Act.put, a7, b7, c7]
    refine wpAnyH_ready (rs := [7]) (by kernel_rfl) (by simp) ?rdy308
    refine AllReadyH.cons (ga7 rfl) (fun K hK => ?stp308) AllReadyH.nil
    go_simp
    go_wp2_with fail
    (refine (of_w _ _).mono ?_; rintro e w6 ⟨rfl, hb6⟩; have Z6 := Z5.via hb6 rfl rfl rfl rfl)
    go_wp2_with fail
    refine hK.out _ _ ?hSn308 (fun hHeld2 => ?rest308)
    case hSn308 => with_reducible exact hHeld.below hb6
    clear hK K hHeld
    have hHeld := hHeld2
    clear hHeld2
    try simp only [Act.put, a7, b7, c7]
    refine wpAnyH_ready (rs := [8]) (by kernel_rfl) (by simp) ?rdy309
    refine AllReadyH.cons (ga7 rfl) (fun K hK => ?stp309) AllReadyH.nil
    go_simp
    go_wp2_with fail
    (refine (CC.out _).mono ?_; rintro e w7 ⟨rfl, hb7⟩; have Z7 := Z6.via hb7 rfl rfl rfl rfl)
    go_wp2_with fail
    refine hK.out _ _ ?hSn309 (fun hHeld2 => ?rest309)
    case hSn309 => with_reducible exact hHeld.below hb7
    clear hK K hHeld
    have hHeld := hHeld2
    clear hHeld2
    try simp only [Act.put, a7, b7, c7]
    refine w8 9 ?_ (ga7 rfl) (by kernel_rfl) (fun _ _ _ h => h) ⟨by rfl, ?y310⟩ hHeld ?_
    case y310 => (intro wq hSw; (try simp only [Two, AN] at hSw); go_simp; try with_reducible rfl)
    try simp only [Act.put, a7, b7, c7]
    refine w8 10 ?_ (ga7 rfl) (by kernel_rfl) (fun _ _ _ h => h) ⟨by rfl, ?y311⟩ hHeld ?_
    case y311 => (intro wq hSw; (try simp only [Two, AN] at hSw); go_simp; try with_reducible rfl)
    try simp only [Act.put, a7, b7, c7]
    refine wpAnyH_done (by kernel_rfl) ?fin300 _
    obtain ⟨r0, r1, r2, r3, r4, r5, r6, r7, r8⟩ := Z7.1.four
    have B4 := Z7.2.2.2
    go_wp2
    refine bodyPost_ret (v := .tuple #[pv false 0 0 0, .int .i64 4]) (by simp [results, Tryz.results6, go_sem, World.cell?_setCell_same', World.cell?_setCell_other, *]) rfl ⟨false, 0, 0, 0, 4, rfl, gx, by repeat (first | with_reducible exact Below.refl _ _ | with_reducible refine Below.drew ?_ | with_reducible refine Below.alloc ?_ (by first | omega | (simp <;> omega)) _ | with_reducible refine Below.setCell ?_ (by first | omega | (simp <;> omega)) _ | with_reducible refine Below.trans ?_ (Below.mono B4 (by first | omega | (simp <;> omega))))⟩
   ·have e1 := hn.eq
    have e2 := hn.h0
    have e3 := hn.l0
    have e4 := hn.l1
    have hnl : nl = (n : Int) := by omega
    have hi : IntKind.i64.wrap nl = nl := by simp [IntKind.wrap, IntKind.bits, IntKind.signed]; omega
    have hd2 : decV DL = some n := by rw [hd, if_pos (by omega)]
    have PR : Hid (∀ w', Calls Tryz.prog 36 #[pv v h l nl] w' fun e w1 => e = .returned (.bool (okP v a nl)) ∧ Below w'.heap.size w' w1) := fun w' => pright_c ha w'
    have NO2 : Hid (okP v a nl = false → PI false 0 0 0 4) := fun h => NO.out (by
     rw [hnl] at h
     rw [hPFH.out, hpa, hd2]; simp [h])
    have YES2 : Hid (okP v a nl = true → PI v h l nl 0) := fun h => YES.out v _ _ nl a n (by
     rw [hnl] at h
     rw [hPFH.out, hpa, hd2]; simp [h]) ha hnl
    generalize okP v a nl = ok at *
    obtain ⟨kb, hkb, hkk⟩ : ∃ kb : Int, kb = k ∧ ¬ (0 < kb) := ⟨k, rfl, by
     rw [hk]; unfold cmpI; split <;> try split
     all_goals omega⟩
    have hkd : decide (0 < k) = false := by rw [← hkb]; exact decide_eq_false hkk
    clear hkb hkk hk hd hd2 hpa ha hPFH NO YES big hW hw2 isW hn e1 e2 e3 e4 hnl
    refine wp_region_held_drew (S := (AN w2.heap.size w4.heap.size v h l nh nl)) (by kernel_rfl) ?hS400 (fun hHeld => ?rest400)
    case hS400 => with_reducible exact S0.drew
    refine w8 0 ?_ (ga7 rfl) (by kernel_rfl) (fun _ _ _ h => h) ⟨by rfl, ?y401⟩ hHeld ?_
    case y401 => (intro wq hSw; (try simp only [Two, AN] at hSw); go_simp; try with_reducible rfl)
    try simp only [Act.put, a7, b7, c7]
    refine w8 1 ?_ (ga7 rfl) (by kernel_rfl) (fun _ _ _ h => h) ⟨by rfl, ?y402⟩ hHeld ?_
    case y402 => (intro wq hSw; (try simp only [Two, AN] at hSw); go_simp; try with_reducible rfl)
    try simp only [Act.put, a7, b7, c7]
    refine w8 2 ?_ (ga7 rfl) (by kernel_rfl) (fun _ _ _ h => h) ⟨by rfl, ?y403⟩ hHeld ?_
    case y403 => (intro wq hSw; (try simp only [Two, AN] at hSw); go_simp; try with_reducible rfl)
    try simp only [Act.put, a7, b7, c7]
    refine w8 3 ?_ (ga7 rfl) (by kernel_rfl) (fun _ _ _ h => h) ⟨by rfl, ?y404⟩ hHeld ?_
    case y404 => (intro wq hSw; (try simp only [Two, AN] at hSw); go_simp; try with_reducible rfl)
    try simp only [Act.put, a7, b7, c7]
    refine w8 4 ?_ (ga7 rfl) (by kernel_rfl) (fun _ _ _ h => h) ⟨by rfl, ?y405⟩ hHeld ?_
    case y405 => (intro wq hSw; (try simp only [Two, AN] at hSw); go_simp; try with_reducible rfl)
    try simp only [Act.put, a7, b7, c7]
    refine wpAnyH_ready (rs := [5]) (by kernel_rfl) (by simp) ?rdy406
    refine AllReadyH.cons (ga7 rfl) (fun K hK => ?stp406) AllReadyH.nil
    go_simp
    go_wp2_with fail
    (refine (CW.out _).mono ?_; rintro e w5 ⟨rfl, hb5⟩; have Z5 := Z4.via hb5 rfl rfl rfl rfl)
    go_wp2_with fail
    refine hK.out _ _ ?hSn406 (fun hHeld2 => ?rest406)
    case hSn406 => with_reducible exact hHeld.below hb5
    clear hK K hHeld
    have hHeld := hHeld2
    clear hHeld2
    try simp only [Act.put, a7, b7, c7]
    refine w8 6 ?_ (ga7 rfl) (by kernel_rfl) (fun _ _ _ h => h) ⟨by rfl, ?y407⟩ hHeld ?_
    case y407 => (intro wq hSw; (try simp only [Two, AN] at hSw); go_simp; try with_reducible rfl)
    try simp only [Act.put, a7, b7, c7]
    refine wpAnyH_ready (rs := [7]) (by kernel_rfl) (by simp) ?rdy408
    refine AllReadyH.cons (ga7 rfl) (fun K hK => ?stp408) AllReadyH.nil
    go_simp
    go_wp2_with fail
    (refine (of_w _ _).mono ?_; rintro e w6 ⟨rfl, hb6⟩; have Z6 := Z5.via hb6 rfl rfl rfl rfl)
    go_wp2_with fail
    refine hK.out _ _ ?hSn408 (fun hHeld2 => ?rest408)
    case hSn408 => with_reducible exact hHeld.below hb6
    clear hK K hHeld
    have hHeld := hHeld2
    clear hHeld2
    try simp only [Act.put, a7, b7, c7]
    refine wpAnyH_ready (rs := [8]) (by kernel_rfl) (by simp) ?rdy409
    refine AllReadyH.cons (ga7 rfl) (fun K hK => ?stp409) AllReadyH.nil
    go_simp
    go_wp2_with fail
    (refine (CC.out _).mono ?_; rintro e w7 ⟨rfl, hb7⟩; have Z7 := Z6.via hb7 rfl rfl rfl rfl)
    go_wp2_with fail
    refine hK.out _ _ ?hSn409 (fun hHeld2 => ?rest409)
    case hSn409 => with_reducible exact hHeld.below hb7
    clear hK K hHeld
    have hHeld := hHeld2
    clear hHeld2
    try simp only [Act.put, a7, b7, c7]
    refine w8 9 ?_ (ga7 rfl) (by kernel_rfl) (fun _ _ _ h => h) ⟨by rfl, ?y410⟩ hHeld ?_
    case y410 => (intro wq hSw; (try simp only [Two, AN] at hSw); go_simp; try with_reducible rfl)
    try simp only [Act.put, a7, b7, c7]
    refine w8 10 ?_ (ga7 rfl) (by kernel_rfl) (fun _ _ _ h => h) ⟨by rfl, ?y411⟩ hHeld ?_
    case y411 => (intro wq hSw; (try simp only [Two, AN] at hSw); go_simp; try with_reducible rfl)
    try simp only [Act.put, a7, b7, c7]
    refine wpAnyH_done (by kernel_rfl) ?fin400 _
    obtain ⟨r0, r1, r2, r3, r4, r5, r6, r7, r8⟩ := Z7.1.four
    obtain ⟨a0, a1, a2, a3, a4, a5, a6⟩ := Z7.2.1.three
    obtain ⟨n0, n1, n2, n3, n4⟩ := Z7.2.2.1.two
    have B7 := Z7.2.2.2
    clear hHeld hb5 hb6 hb7 Z4 Z5 Z6 S0 CW CC
    go_wp2_with fail
    refine (PR.out _).mono ?_
    rintro e w8 ⟨rfl, hb8⟩
    have R8 := (Z7.1.alloc (.cells #[.bool v, .int .u64 h, .int .u64 l, .int .i64 nl] 28)).below hb8
    have P8 : Blk w8 w7.heap.size #[.bool v, .int .u64 h, .int .u64 l, .int .i64 nl] 28 := (Blk.new _ _ _).below hb8
    have B8 : Below w.heap.size w w8 := by repeat (first | with_reducible exact Below.refl _ _ | with_reducible refine Below.drew ?_ | with_reducible refine Below.alloc ?_ (by first | omega | (simp <;> omega)) _ | with_reducible refine Below.setCell ?_ (by first | omega | (simp <;> omega)) _ | with_reducible refine Below.trans ?_ (Below.mono hb8 (by first | omega | (simp <;> omega))) | with_reducible refine Below.trans ?_ (Below.mono B7 (by first | omega | (simp <;> omega))))
    have hne : w.heap.size ≠ w7.heap.size := Nat.ne_of_lt r8
    clear r0 r1 r2 r3 r4 r5 r6 r7 r8 a0 a1 a2 a3 a4 a5 a6 n0 n1 n2 n3 n4 Z7 hb8 PR
    obtain ⟨r0, r1, r2, r3, r4, r5, r6, r7, r8⟩ := R8.four
    obtain ⟨p0, p1, p2, p3, p4, p5, p6, p7, p8⟩ := P8.four
    cases ok
    ·have gx := NO2.out rfl
     go_wp2
     refine bodyPost_ret (v := .tuple #[pv false 0 0 0, .int .i64 4]) (by simp [results, Tryz.results6, go_sem, World.cell?_setCell_same', World.cell?_setCell_other, *]) rfl ⟨false, 0, 0, 0, 4, rfl, gx, by repeat (first | with_reducible exact Below.refl _ _ | with_reducible refine Below.drew ?_ | with_reducible refine Below.alloc ?_ (by first | omega | (simp <;> omega)) _ | with_reducible refine Below.setCell ?_ (by first | omega | (simp <;> omega)) _ | with_reducible refine Below.trans ?_ (Below.mono B8 (by first | omega | (simp <;> omega))))⟩
    ·have gx := YES2.out rfl
     go_wp2
     refine bodyPost_ret (v := .tuple #[pv v h l nl, .int .i64 0]) (by simp [results, Tryz.results6, go_sem, World.cell?_setCell_same', World.cell?_setCell_other, *]) rfl ⟨v, h, l, nl, 0, rfl, gx, by repeat (first | with_reducible exact Below.refl _ _ | with_reducible refine Below.drew ?_ | with_reducible refine Below.alloc ?_ (by first | omega | (simp <;> omega)) _ | with_reducible refine Below.setCell ?_ (by first | omega | (simp <;> omega)) _ | with_reducible refine Below.trans ?_ (Below.mono B8 (by first | omega | (simp <;> omega))))⟩

theorem pparse_is (S : ByteArray) (hS : S.size ≤ 1000000) {v : Bool} {h l b c : Int} (hp : PParseIs S.data.toList v h l b c) (w : World) (hL : LW w) :
  Calls Tryz.prog 6 #[.string S] w fun e w' => e = .returned (.tuple #[pv v h l b, .int .i64 c]) ∧ Below w.heap.size w w' := by
 refine (pparse_c S hS w hL).mono ?_
 rintro e w' ⟨v', h', l', b', c', rfl, hp', hb⟩
 obtain ⟨rfl, rfl, rfl, rfl, rfl⟩ := hp'.out.uniq hp
 exact ⟨rfl, hb⟩


set_option maxHeartbeats 400000 in
theorem shr_out {ah al k : Int} (k1 : 128 ≤ k) (w : World) :
  Calls Tryz.prog 165 #[nv ah al, .int .i64 k] w fun e w' => e = .returned (nv 0 0) ∧ Below w.heap.size w w' := by
 go_enter Tryz.func165, Tryz.ntmps165
 go_wp2_with fail
 refine (out_yes k (by omega) _).mono ?_
 rintro e w1 ⟨rfl, hb1⟩
 obtain ⟨hc1, hf1⟩ := bcell hb1
 have hz1 : w.heap.size + 1 < w1.heap.size := by have := hb1.size; simp at this; omega
 go_wp2
 refine bodyPost_ret (v := nv 0 0) (by simp [results, Tryz.results165, go_sem, hc1, hz1]) rfl ⟨rfl, by repeat (first | with_reducible exact Below.refl _ _ | with_reducible refine Below.drew ?_ | with_reducible refine Below.alloc ?_ (by first | omega | (simp <;> omega)) _ | with_reducible refine Below.setCell ?_ (by first | omega | (simp <;> omega)) _ | with_reducible refine Below.trans ?_ (Below.mono hb1 (by first | omega | (simp <;> omega))))⟩

/-- Shr: a over 2^k, for k of 0 and more. -/
theorem shr_all {ah al k h l : Int} {a : Nat} (ha : IsNum ah al a) (k0 : 0 ≤ k) (hr : IsNum h l (a / 2 ^ k.toNat)) (w : World) :
  Calls Tryz.prog 165 #[nv ah al, .int .i64 k] w fun e w' => e = .returned (nv h l) ∧ Below w.heap.size w w' := by
 by_cases k1 : k < 128
 ·exact shr_is ha k0 k1 hr w
 ·have z : a / 2 ^ k.toNat = 0 := by
   apply Nat.div_eq_of_lt
   refine Nat.lt_of_lt_of_le ha.lt ?_
   rw [show (340282366920938463463374607431768211456 : Nat) = 2 ^ 128 by decide]
   exact Nat.pow_le_pow_right (by decide) (by omega)
  rw [z] at hr
  obtain ⟨rfl, rfl⟩ := hr.zero_iff.1 rfl
  exact shr_out (by omega) w

set_option maxHeartbeats 800000 in
theorem cuts_c {v : Bool} {h l b k : Int} {a : Nat} (ha : IsNum h l a) (w : World) :
  Calls Tryz.prog 161 #[pv v h l b, .int .i64 k] w fun e w' => e = .returned (.bool (cutB v a b k)) ∧ Below w.heap.size w w' := by
 obtain ⟨W, hW⟩ : ∃ W, widthA v = W := ⟨_, rfl⟩
 have R := fun w' => pright_c (v := v) (b := b) ha w'
 have D := fun w' => width_lit v W hW h l w'
 have hf : cutB v a b k = (okP v a b && decide (b ≤ k) && decide (k ≤ W)) := by rw [← hW]; rfl
 obtain ⟨ok, hok⟩ : ∃ ok, okP v a b = ok := ⟨_, rfl⟩
 rw [hok] at R hf
 clear ha hok hW
 cases ok
 ·have f : Hid (cutB v a b k = false) := by show _ = _; rw [hf]; rfl
  clear hf D
  go_enter Tryz.func161, Tryz.ntmps161
  go_wp2_with fail
  refine (R _).mono ?_
  rintro e w1 ⟨rfl, hb1⟩
  obtain ⟨hc1, hf1⟩ := bcell hb1
  have hz_w1_0 : w.heap.size < w1.heap.size   := (by have := hb1.size; first | omega | (simp at this; omega))
  clear R
  go_wp2
  go_ret
  exact ⟨by rw [f.out]; rfl, by repeat (first | with_reducible exact Below.refl _ _ | with_reducible refine Below.drew ?_ | with_reducible refine Below.alloc ?_ (by first | omega | (simp <;> omega)) _ | with_reducible refine Below.setCell ?_ (by first | omega | (simp <;> omega)) _ | with_reducible refine Below.trans ?_ (Below.mono hb1 (by first | omega | (simp <;> omega))))⟩
 ·by_cases h0 : b ≤ k
  ·by_cases h1 : k ≤ W
   ·have f : Hid (cutB v a b k = true) := by show _ = _; rw [hf, decide_eq_true h0, decide_eq_true h1]; rfl
    clear hf
    go_enter Tryz.func161, Tryz.ntmps161
    go_wp2_with fail
    refine (R _).mono ?_
    rintro e w1 ⟨rfl, hb1⟩
    obtain ⟨hc1, hf1⟩ := bcell hb1
    have hz_w1_0 : w.heap.size < w1.heap.size   := (by have := hb1.size; first | omega | (simp at this; omega))
    clear R
    go_wp2_with fail
    refine (D _).mono ?_
    rintro e w2 ⟨rfl, hb2⟩
    clear D
    go_wp2
    go_ret
    exact ⟨by rw [f.out]; rfl, by repeat (first | with_reducible exact Below.refl _ _ | with_reducible refine Below.drew ?_ | with_reducible refine Below.alloc ?_ (by first | omega | (simp <;> omega)) _ | with_reducible refine Below.setCell ?_ (by first | omega | (simp <;> omega)) _ | with_reducible refine Below.trans ?_ (Below.mono hb2 (by first | omega | (simp <;> omega))) | with_reducible refine Below.trans ?_ (Below.mono hb1 (by first | omega | (simp <;> omega))))⟩
   ·have f : Hid (cutB v a b k = false) := by show _ = _; rw [hf, decide_eq_false h1]; simp
    have h1' : decide (k ≤ W) = false := decide_eq_false h1
    clear hf h1
    go_enter Tryz.func161, Tryz.ntmps161
    go_wp2_with fail
    refine (R _).mono ?_
    rintro e w1 ⟨rfl, hb1⟩
    obtain ⟨hc1, hf1⟩ := bcell hb1
    have hz_w1_0 : w.heap.size < w1.heap.size   := (by have := hb1.size; first | omega | (simp at this; omega))
    clear R
    go_wp2_with fail
    refine (D _).mono ?_
    rintro e w2 ⟨rfl, hb2⟩
    clear D
    go_wp2
    go_ret
    exact ⟨by rw [f.out]; rfl, by repeat (first | with_reducible exact Below.refl _ _ | with_reducible refine Below.drew ?_ | with_reducible refine Below.alloc ?_ (by first | omega | (simp <;> omega)) _ | with_reducible refine Below.setCell ?_ (by first | omega | (simp <;> omega)) _ | with_reducible refine Below.trans ?_ (Below.mono hb2 (by first | omega | (simp <;> omega))) | with_reducible refine Below.trans ?_ (Below.mono hb1 (by first | omega | (simp <;> omega))))⟩
  ·have f : Hid (cutB v a b k = false) := by show _ = _; rw [hf, decide_eq_false h0]; rfl
   have h0' : decide (b ≤ k) = false := decide_eq_false h0
   clear hf h0 D
   go_enter Tryz.func161, Tryz.ntmps161
   go_wp2_with fail
   refine (R _).mono ?_
   rintro e w1 ⟨rfl, hb1⟩
   obtain ⟨hc1, hf1⟩ := bcell hb1
   have hz_w1_0 : w.heap.size < w1.heap.size   := (by have := hb1.size; first | omega | (simp at this; omega))
   clear R
   go_wp2
   go_ret
   exact ⟨by rw [f.out]; rfl, by repeat (first | with_reducible exact Below.refl _ _ | with_reducible refine Below.drew ?_ | with_reducible refine Below.alloc ?_ (by first | omega | (simp <;> omega)) _ | with_reducible refine Below.setCell ?_ (by first | omega | (simp <;> omega)) _ | with_reducible refine Below.trans ?_ (Below.mono hb1 (by first | omega | (simp <;> omega))))⟩

/-- A prefix's block and a number's, that are read. -/
def PN (B C : Nat) (v : Bool) (h l b ih il : Int) (wx : World) : Prop :=
 (wx.cell? ⟨B, 0, none⟩ = some (.bool v) ∧ wx.cell? ⟨B, 1, none⟩ = some (.int .u64 h) ∧ wx.cell? ⟨B, 2, none⟩ = some (.int .u64 l) ∧ wx.cell? ⟨B, 3, none⟩ = some (.int .i64 b) ∧ wx.cell? ⟨C, 0, none⟩ = some (.int .u64 ih) ∧ wx.cell? ⟨C, 1, none⟩ = some (.int .u64 il)) ∧ Blk wx B #[.bool v, .int .u64 h, .int .u64 l, .int .i64 b] 28 ∧ Blk wx C #[.int .u64 ih, .int .u64 il] 24

theorem PN.of {B C : Nat} {v : Bool} {h l b ih il : Int} {wx : World} (x : Blk wx B #[.bool v, .int .u64 h, .int .u64 l, .int .i64 b] 28) (y : Blk wx C #[.int .u64 ih, .int .u64 il] 24) : PN B C v h l b ih il wx :=
 ⟨⟨x.cell 0, x.cell 1, x.cell 2, x.cell 3, y.cell 0, y.cell 1⟩, x, y⟩

theorem PN.drew {B C : Nat} {v : Bool} {h l b ih il : Int} {wx : World} (s : PN B C v h l b ih il wx) : PN B C v h l b ih il wx.drew := s

theorem PN.below {B C : Nat} {v : Bool} {h l b ih il : Int} {wx w1 : World} (s : PN B C v h l b ih il wx) (hb : Below wx.heap.size wx w1) : PN B C v h l b ih il w1 := PN.of (s.2.1.below hb) (s.2.2.below hb)

theorem PN.alloc {B C : Nat} {v : Bool} {h l b ih il : Int} {wx : World} (s : PN B C v h l b ih il wx) (o : Obj) : PN B C v h l b ih il (wx.alloc o) := PN.of (s.2.1.alloc o) (s.2.2.alloc o)

theorem PN.far {B C D : Nat} {v : Bool} {h l b ih il : Int} {wx : World} (s : PN B C v h l b ih il wx) (h1 : B ≠ D) (h2 : C ≠ D) (i j : Nat) (x y : Value) : PN B C v h l b ih il ((wx.setCell ⟨D, i, none⟩ x).setCell ⟨D, j, none⟩ y) :=
 PN.of ((s.2.1.far h1 _ _).far h1 _ _) ((s.2.2.far h2 _ _).far h2 _ _)

set_option maxRecDepth 100000 in
set_option maxHeartbeats 800000 in
theorem block_arg {v : Bool} {h l b k ih il : Int} {a : Nat} (ha : IsNum h l a) (hk : cutB v a b k = false) (w : World) :
  Calls Tryz.prog 138 #[pv v h l b, .int .i64 k, nv ih il] w fun e w' => e = .returned (.tuple #[pv false 0 0 0, .int .i64 1]) ∧ Below w.heap.size w w' := by
 have R := fun w' => cuts_c (v := v) (b := b) (k := k) ha w'
 rw [hk] at R
 clear hk ha
 go_enter Tryz.func138, Tryz.ntmps138
 go_wp2_with fail
 refine (R _).mono ?_
 rintro e w1 ⟨rfl, hb1⟩
 obtain ⟨hc1, hf1⟩ := bcell hb1
 have hz_w1_0 : w.heap.size < w1.heap.size   := (by have := hb1.size; first | omega | (simp at this; omega))
 have hz_w1_1 : w.heap.size + 1 < w1.heap.size   := (by have := hb1.size; first | omega | (simp at this; omega))
 have hz_w1_2 : w.heap.size + 2 < w1.heap.size   := (by have := hb1.size; first | omega | (simp at this; omega))
 clear R
 go_wp2
 refine bodyPost_ret (v := .tuple #[pv false 0 0 0, .int .i64 1]) (by simp [results, Tryz.results138, go_sem, World.cell?_setCell_same', World.cell?_setCell_other, *]) rfl ⟨rfl, by repeat (first | with_reducible exact Below.refl _ _ | with_reducible refine Below.drew ?_ | with_reducible refine Below.alloc ?_ (by first | omega | (simp <;> omega)) _ | with_reducible refine Below.setCell ?_ (by first | omega | (simp <;> omega)) _ | with_reducible refine Below.trans ?_ (Below.mono hb1 (by first | omega | (simp <;> omega))))⟩

/-- What Block keeps. -/
def KB (w : World) (v : Bool) (h l b ih il : Int) (wr : World) : Prop :=
 PN w.heap.size (w.heap.size + 1) v h l b ih il wr ∧ Blk wr (w.heap.size + 2) #[.bool false, .int .u64 0, .int .u64 0, .int .i64 0] 28 ∧ Below w.heap.size w wr

theorem KB.start (w : World) (v : Bool) (h l b ih il : Int) : KB w v h l b ih il (((w.alloc (.cells #[.bool v, .int .u64 h, .int .u64 l, .int .i64 b] 28)).alloc (.cells #[.int .u64 ih, .int .u64 il] 24)).alloc (.cells #[.bool false, .int .u64 0, .int .u64 0, .int .i64 0] 28)) :=
 ⟨PN.of (((Blk.new _ _ _).alloc _).alloc _) (Blk.alloc (by simpa using Blk.new (w.alloc (.cells #[.bool v, .int .u64 h, .int .u64 l, .int .i64 b] 28)) #[.int .u64 ih, .int .u64 il] 24) _), by simpa using Blk.new ((w.alloc (.cells #[.bool v, .int .u64 h, .int .u64 l, .int .i64 b] 28)).alloc (.cells #[.int .u64 ih, .int .u64 il] 24)) #[.bool false, .int .u64 0, .int .u64 0, .int .i64 0] 28, by repeat (first | with_reducible exact Below.refl _ _ | with_reducible refine Below.drew ?_ | with_reducible refine Below.alloc ?_ (by first | omega | (simp <;> omega)) _ | with_reducible refine Below.setCell ?_ (by first | omega | (simp <;> omega)) _)⟩

theorem KB.below {w W w1 : World} {v : Bool} {h l b ih il : Int} (s : KB w v h l b ih il W) (hb : Below W.heap.size W w1) : KB w v h l b ih il w1 := ⟨s.1.below hb, s.2.1.below hb, s.2.2.trans (hb.mono s.2.2.size)⟩

theorem KB.via {w W W0 w1 : World} {v : Bool} {h l b ih il : Int} (s : KB w v h l b ih il W0) (hb : Below W.heap.size W w1) (e : W.heap = W0.heap) (e1 : W.os = W0.os) (e2 : W.tape = W0.tape) (e3 : W.output = W0.output) : KB w v h l b ih il w1 :=
 ⟨PN.of (s.1.2.1.via hb e) (s.1.2.2.via hb e), s.2.1.via hb e, Below.via hb s.2.2 (Nat.le_refl _) e e1 e2 e3⟩

set_option maxRecDepth 100000 in
set_option maxHeartbeats 1600000 in
theorem block_ok {v : Bool} {h l b k ih il rh rl : Int} {a i : Nat} (ha : IsNum h l a) (hi : IsNum ih il i) (hk : cutB v a b k = true) (hn : i < 2 ^ (k - b).toNat) (hr : IsNum rh rl (blkN v a k i)) (w : World) :
  Calls Tryz.prog 138 #[pv v h l b, .int .i64 k, nv ih il] w fun e w' => e = .returned (.tuple #[pv v rh rl k, .int .i64 0]) ∧ Below w.heap.size w w' := by
 have R : Hid (∀ w', Calls Tryz.prog 161 #[pv v h l b, .int .i64 k] w' fun e w1 => e = .returned (.bool true) ∧ Below w'.heap.size w' w1) := fun w' => hk ▸ cuts_c ha w'
 obtain ⟨n, hln⟩ : ∃ n : Int, n = (Go.bitLen i : Nat) := ⟨_, rfl⟩
 have L : Hid (∀ w', Calls Tryz.prog 115 #[nv ih il] w' fun e w1 => e = .returned (.int .i64 n) ∧ Below w'.heap.size w' w1) := fun w' => len_is hi hln w'
 obtain ⟨_, h0, h1, h2, _⟩ := cutB_parts hk
 have hW2 := width_le v
 have hlt : ¬ k - b < n := by
  have : Go.bitLen i ≤ (k - b).toNat := len_iff.2 hn
  omega
 obtain ⟨W, hW⟩ : ∃ W, widthA v = W := ⟨_, rfl⟩
 have C1 : Hid (∀ w', Calls Tryz.prog 35 #[av v h l] w' fun e w1 => e = .returned (.int .i64 W) ∧ Below w'.heap.size w' w1) := fun w' => width_lit v W hW h l w'
 have eb : (W - k).toNat = behindP v k := by unfold behindP; rw [hW]
 obtain ⟨sh, sl, hs⟩ := IsNum.ex (n := i * 2 ^ behindP v k % 340282366920938463463374607431768211456) (Nat.mod_lt _ (by decide))
 have C2 : Hid (∀ w', Calls Tryz.prog 116 #[nv ih il, .int .i64 (W - k)] w' fun e w1 => e = .returned (nv sh sl) ∧ Below w'.heap.size w' w1) := fun w' => shl_is hi (by omega) (by rw [eb]; exact hs) w'
 have C3 : Hid (∀ w', Calls Tryz.prog 110 #[nv h l, nv sh sl] w' fun e w1 => e = .returned (nv rh rl) ∧ Below w'.heap.size w' w1) := fun w' => or_is ha hs (hr.cast (blk_or hk hn).symm) w'
 have hw1 : IntKind.i64.wrap (k - b) = k - b := by simp [IntKind.wrap, IntKind.bits, IntKind.signed]; omega
 have hw2 : IntKind.i64.wrap (W - k) = W - k := by simp [IntKind.wrap, IntKind.bits, IntKind.signed]; omega
 have K0 := KB.start w v h l b ih il
 clear ha hi hk hn hln h0 h1 h2 hW hW2 eb hs hr
 go_enter Tryz.func138, Tryz.ntmps138
 go_wp2_with fail
 refine (R.out _).mono ?_
 rintro e w1 ⟨rfl, hb1⟩
 have K1 := K0.below hb1
 have S0 := K1.1
 clear R hb1 K0
 go_wp2_with fail
 refine wp_region_held_drew (S := (PN w.heap.size (w.heap.size + 1) v h l b ih il)) (by kernel_rfl) ?hS200 (fun hHeld => ?rest200)
 case hS200 => with_reducible exact S0.drew
 refine w8 0 ?_ (ga7 rfl) (by kernel_rfl) (fun _ _ _ h => h) ⟨by rfl, ?y201⟩ hHeld ?_
 case y201 => (intro wq hSw; (try simp only [Two, PN] at hSw); go_simp; try with_reducible rfl)
 try simp only [Act.put, a7, b7, c7]
 refine w8 2 ?_ (ga7 rfl) (by kernel_rfl) (fun _ _ _ h => h) ⟨by rfl, ?y202⟩ hHeld ?_
 case y202 => (intro wq hSw; (try simp only [Two, PN] at hSw); go_simp; try with_reducible rfl)
 try simp only [Act.put, a7, b7, c7]
 refine w8 3 ?_ (ga7 rfl) (by kernel_rfl) (fun _ _ _ h => h) ⟨by rfl, ?y203⟩ hHeld ?_
 case y203 => (intro wq hSw; (try simp only [Two, PN] at hSw); go_simp; try with_reducible rfl)
 try simp only [Act.put, a7, b7, c7]
 refine w8 4 ?_ (ga7 rfl) (by kernel_rfl) (fun _ _ _ h => h) ⟨by rfl, ?y204⟩ hHeld ?_
 case y204 => (intro wq hSw; (try simp only [Two, PN] at hSw); go_simp; try with_reducible rfl)
 try simp only [Act.put, a7, b7, c7]
 refine w8 5 ?_ (ga7 rfl) (by kernel_rfl) (fun _ _ _ h => h) ⟨by rfl, ?y205⟩ hHeld ?_
 case y205 => (intro wq hSw; (try simp only [Two, PN] at hSw); go_simp; try with_reducible rfl)
 try simp only [Act.put, a7, b7, c7]
 refine wpAnyH_ready (rs := [1]) (by kernel_rfl) (by simp) ?rdy206
 refine AllReadyH.cons (ga7 rfl) (fun K hK => ?stp206) AllReadyH.nil
 go_simp
 go_wp2_with fail
 (refine (L.out _).mono ?_; rintro e w3 ⟨rfl, hb3⟩; have K3 := K1.via hb3 rfl rfl rfl rfl)
 go_wp2_with fail
 refine hK.out _ _ ?hSn206 (fun hHeld2 => ?rest206)
 case hSn206 => with_reducible exact hHeld.below hb3
 clear hK K hHeld
 have hHeld := hHeld2
 clear hHeld2
 try simp only [Act.put, a7, b7, c7]
 refine w8 6 ?_ (ga7 rfl) (by kernel_rfl) (fun _ _ _ h => h) ⟨by rfl, ?y207⟩ hHeld ?_
 case y207 => (intro wq hSw; (try simp only [Two, PN] at hSw); go_simp; try with_reducible rfl)
 try simp only [Act.put, a7, b7, c7]
 refine wpAnyH_done (by kernel_rfl) ?fin200 _
 have F := K3.1.1
 have z0 := K3.1.2.1.lt
 clear S0 hHeld hb3 K1 L
 go_wp2_with fail
 have P1 : Blk (w3.alloc (.cells #[.bool v, .int .u64 h, .int .u64 l, .int .i64 k] 28)) w3.heap.size #[.bool v, .int .u64 h, .int .u64 l, .int .i64 k] 28 := Blk.new _ _ _
 have R1 := K3.2.1.alloc (.cells #[.bool v, .int .u64 h, .int .u64 l, .int .i64 k] 28)
 have B1 := K3.2.2.alloc (Nat.le_of_lt z0) (.cells #[.bool v, .int .u64 h, .int .u64 l, .int .i64 k] 28)
 have S1 := K3.1.alloc (.cells #[.bool v, .int .u64 h, .int .u64 l, .int .i64 k] 28)
 have ne1 : w.heap.size ≠ w3.heap.size := Nat.ne_of_lt K3.1.2.1.lt
 have ne2 : w.heap.size + 1 ≠ w3.heap.size := Nat.ne_of_lt K3.1.2.2.lt
 have ne3 : w.heap.size + 2 ≠ w3.heap.size := Nat.ne_of_lt K3.2.1.lt
 clear F K3
 refine wp_region_held_drew (S := (PN w.heap.size (w.heap.size + 1) v h l b ih il)) (by kernel_rfl) ?hS300 (fun hHeld => ?rest300)
 case hS300 => with_reducible exact S1.drew
 refine w8 0 ?_ (ga7 rfl) (by kernel_rfl) (fun _ _ _ h => h) ⟨by rfl, ?y301⟩ hHeld ?_
 case y301 => (intro wq hSw; (try simp only [Two, PN] at hSw); go_simp; try with_reducible rfl)
 try simp only [Act.put, a7, b7, c7]
 refine w8 1 ?_ (ga7 rfl) (by kernel_rfl) (fun _ _ _ h => h) ⟨by rfl, ?y302⟩ hHeld ?_
 case y302 => (intro wq hSw; (try simp only [Two, PN] at hSw); go_simp; try with_reducible rfl)
 try simp only [Act.put, a7, b7, c7]
 refine w8 2 ?_ (ga7 rfl) (by kernel_rfl) (fun _ _ _ h => h) ⟨by rfl, ?y303⟩ hHeld ?_
 case y303 => (intro wq hSw; (try simp only [Two, PN] at hSw); go_simp; try with_reducible rfl)
 try simp only [Act.put, a7, b7, c7]
 refine w8 3 ?_ (ga7 rfl) (by kernel_rfl) (fun _ _ _ h => h) ⟨by rfl, ?y304⟩ hHeld ?_
 case y304 => (intro wq hSw; (try simp only [Two, PN] at hSw); go_simp; try with_reducible rfl)
 try simp only [Act.put, a7, b7, c7]
 refine w8 4 ?_ (ga7 rfl) (by kernel_rfl) (fun _ _ _ h => h) ⟨by rfl, ?y305⟩ hHeld ?_
 case y305 => (intro wq hSw; (try simp only [Two, PN] at hSw); go_simp; try with_reducible rfl)
 try simp only [Act.put, a7, b7, c7]
 refine w8 5 ?_ (ga7 rfl) (by kernel_rfl) (fun _ _ _ h => h) ⟨by rfl, ?y306⟩ hHeld ?_
 case y306 => (intro wq hSw; (try simp only [Two, PN] at hSw); go_simp; try with_reducible rfl)
 try simp only [Act.put, a7, b7, c7]
 refine w8 7 ?_ (ga7 rfl) (by kernel_rfl) (fun _ _ _ h => h) ⟨by rfl, ?y307⟩ hHeld ?_
 case y307 => (intro wq hSw; (try simp only [Two, PN] at hSw); go_simp; try with_reducible rfl)
 try simp only [Act.put, a7, b7, c7]
 refine wpAnyH_ready (rs := [6]) (by kernel_rfl) (by simp) ?rdy308
 refine AllReadyH.cons (ga7 rfl) (fun K hK => ?stp308) AllReadyH.nil
 go_simp
 go_wp2_with fail
 (refine (C1.out _).mono ?_; rintro e w4 ⟨rfl, hb4⟩; have B4 : Below w.heap.size w w4 := Below.via hb4 B1 (Nat.le_refl _) rfl rfl rfl rfl)
 go_wp2_with fail
 refine hK.out _ _ ?hSn308 (fun hHeld2 => ?rest308)
 case hSn308 => with_reducible exact hHeld.below hb4
 clear hK K hHeld
 have hHeld := hHeld2
 clear hHeld2
 try simp only [Act.put, a7, b7, c7]
 refine w8 8 ?_ (ga7 rfl) (by kernel_rfl) (fun _ _ _ h => h) ⟨by rfl, ?y309⟩ hHeld ?_
 case y309 => (intro wq hSw; (try simp only [Two, PN] at hSw); go_simp; try with_reducible rfl)
 try simp only [Act.put, a7, b7, c7]
 refine wpAnyH_ready (rs := [9]) (by kernel_rfl) (by simp) ?rdy310
 refine AllReadyH.cons (ga7 rfl) (fun K hK => ?stp310) AllReadyH.nil
 go_simp
 go_wp2_with fail
 (refine (C2.out _).mono ?_; rintro e w5 ⟨rfl, hb5⟩; have B5 : Below w.heap.size w w5 := Below.via hb5 B4 (Nat.le_refl _) rfl rfl rfl rfl)
 go_wp2_with fail
 refine hK.out _ _ ?hSn310 (fun hHeld2 => ?rest310)
 case hSn310 => with_reducible exact hHeld.below hb5
 clear hK K hHeld
 have hHeld := hHeld2
 clear hHeld2
 try simp only [Act.put, a7, b7, c7]
 refine wpAnyH_ready (rs := [10]) (by kernel_rfl) (by simp) ?rdy311
 refine AllReadyH.cons (ga7 rfl) (fun K hK => ?stp311) AllReadyH.nil
 go_simp
 go_wp2_with fail
 (refine (C3.out _).mono ?_; rintro e w6 ⟨rfl, hb6⟩; have B6 : Below w.heap.size w w6 := Below.via hb6 B5 (Nat.le_refl _) rfl rfl rfl rfl; obtain ⟨p0, p1, p2, p3, p4, p5, p6, p7, p8⟩ := (((P1.via hb4 rfl).below hb5).below hb6).four)
 go_wp2_with fail
 refine hK.out _ _ ?hSn311 (fun hHeld2 => ?rest311)
 case hSn311 => (first | with_reducible exact hHeld.below hb4 | with_reducible exact hHeld.below hb5 | with_reducible exact hHeld.below hb6)
 clear hK K hHeld
 have hHeld := hHeld2
 clear hHeld2
 try simp only [Act.put, a7, b7, c7]
 refine w8 11 ?_ (ga7 rfl) (by kernel_rfl) (fun _ _ _ h => h) ⟨by rfl, ?y312⟩ hHeld ?_
 case y312 => (intro wq hSw; (try simp only [Two, PN] at hSw); go_simp; try with_reducible rfl)
 try simp only [Act.put, a7, b7, c7]
 refine w8 12 ?_ (ga7 rfl) (by kernel_rfl) (fun _ _ _ h => h) ⟨by rfl, ?y313⟩ hHeld ?_
 case y313 => (intro wq hSw; (try simp only [Two, PN] at hSw); go_simp; try with_reducible rfl)
 try simp only [Act.put, a7, b7, c7]
 refine wpAnyH_ready (rs := [13]) (by kernel_rfl) (by simp) ?rdy314
 refine AllReadyH.cons (ga7 rfl) (fun K hK => ?stp314) AllReadyH.nil
 go_simp
 go_wp2_with fail
 skip
 go_wp2_with fail
 refine hK.out _ _ ?hSn314 (fun hHeld2 => ?rest314)
 case hSn314 => (first | with_reducible exact S1.drew | with_reducible exact hHeld.below hb4 | with_reducible exact hHeld.below hb5 | with_reducible exact hHeld.below hb6 | exact hHeld.far ne1 ne2 _ _ _ _)
 clear hK K hHeld
 have hHeld := hHeld2
 clear hHeld2
 try simp only [Act.put, a7, b7, c7]
 refine wpAnyH_done (by kernel_rfl) ?fin300 _
 obtain ⟨r0, r1, r2, r3, r4, r5, r6, r7, r8⟩ := (((R1.via hb4 rfl).below hb5).below hb6).four
 clear hHeld hb4 hb5 hb6 S1 P1 R1 B1 B4 B5 C1 C2 C3
 go_wp2
 refine bodyPost_ret (v := .tuple #[pv v rh rl k, .int .i64 0]) (by simp [results, Tryz.results138, go_sem, World.cell?_setCell_same', World.cell?_setCell_other, *]) rfl ⟨rfl, by repeat (first | with_reducible exact Below.refl _ _ | with_reducible refine Below.drew ?_ | with_reducible refine Below.alloc ?_ (by first | omega | (simp <;> omega)) _ | with_reducible refine Below.setCell ?_ (by first | omega | (simp <;> omega)) _ | with_reducible refine Below.trans ?_ (Below.mono B6 (by first | omega | (simp <;> omega))))⟩

theorem AN.far2 {A N D : Nat} {v : Bool} {h l nh nl : Int} {wx : World} (s : AN A N v h l nh nl wx) (h1 : A ≠ D) (h2 : N ≠ D) (x y : Value) : AN A N v h l nh nl ((wx.setCell ⟨D, 0, none⟩ x).setCell ⟨D, 1, none⟩ y) := AN.of (s.2.1.far2 h1 _ _) (s.2.2.far2 h2 _ _)

set_option maxRecDepth 100000 in
set_option maxHeartbeats 1600000 in
theorem blockOf_is {v : Bool} {h l b k ah al rh rl : Int} {n a : Nat} (hp : IsNum h l n) (ha : IsNum ah al a) (on : okA v n = true) (oa : okA v a = true) (hna : n ≤ a) (k0 : 0 ≤ k) (k1 : k ≤ widthA v) (hr : IsNum rh rl (numN v n k a)) (w : World) :
  Calls Tryz.prog 136 #[pv v h l b, .int .i64 k, av v ah al] w fun e w' => e = .returned (nv rh rl) ∧ Below w.heap.size w w' := by
 obtain ⟨dh, dl, hd⟩ := IsNum.ex (n := a - n) (Nat.lt_of_le_of_lt (Nat.sub_le _ _) ha.lt)
 have M : Hid (∀ w', Calls Tryz.prog 164 #[av v ah al, av v h l] w' fun e w1 => e = .returned (.tuple #[nv dh dl, .int .i64 0]) ∧ Below w'.heap.size w' w1) := fun w' => minus_is ha hp (Or.inr (Or.inr ⟨⟨oa, on, rfl⟩, hna, hd, rfl⟩)) w'
 have hW2 := width_le v
 obtain ⟨W, hW⟩ : ∃ W, widthA v = W := ⟨_, rfl⟩
 have C1 : Hid (∀ w', Calls Tryz.prog 35 #[av v ah al] w' fun e w1 => e = .returned (.int .i64 W) ∧ Below w'.heap.size w' w1) := fun w' => width_lit v W hW ah al w'
 have eb : (W - k).toNat = behindP v k := by unfold behindP; rw [hW]
 have C2 : Hid (∀ w', Calls Tryz.prog 165 #[nv dh dl, .int .i64 (W - k)] w' fun e w1 => e = .returned (nv rh rl) ∧ Below w'.heap.size w' w1) := fun w' => shr_all hd (by omega) (by rw [eb]; exact hr) w'
 have hw2 : IntKind.i64.wrap (W - k) = W - k := by simp [IntKind.wrap, IntKind.bits, IntKind.signed]; omega
 have B0 : Below w.heap.size w (((w.alloc (.cells #[.bool v, .int .u64 h, .int .u64 l, .int .i64 b] 28)).alloc (.cells #[.bool v, .int .u64 ah, .int .u64 al] 26)).alloc (.cells #[.int .u64 0, .int .u64 0] 24)) := by repeat (first | with_reducible exact Below.refl _ _ | with_reducible refine Below.drew ?_ | with_reducible refine Below.alloc ?_ (by first | omega | (simp <;> omega)) _ | with_reducible refine Below.setCell ?_ (by first | omega | (simp <;> omega)) _)
 have A0 : Blk (((w.alloc (.cells #[.bool v, .int .u64 h, .int .u64 l, .int .i64 b] 28)).alloc (.cells #[.bool v, .int .u64 ah, .int .u64 al] 26)).alloc (.cells #[.int .u64 0, .int .u64 0] 24)) (w.heap.size + 1) #[.bool v, .int .u64 ah, .int .u64 al] 26 := Blk.alloc (by simpa using Blk.new (w.alloc (.cells #[.bool v, .int .u64 h, .int .u64 l, .int .i64 b] 28)) #[.bool v, .int .u64 ah, .int .u64 al] 26) _
 have R0 : Blk (((w.alloc (.cells #[.bool v, .int .u64 h, .int .u64 l, .int .i64 b] 28)).alloc (.cells #[.bool v, .int .u64 ah, .int .u64 al] 26)).alloc (.cells #[.int .u64 0, .int .u64 0] 24)) (w.heap.size + 2) #[.int .u64 0, .int .u64 0] 24 := by simpa using Blk.new ((w.alloc (.cells #[.bool v, .int .u64 h, .int .u64 l, .int .i64 b] 28)).alloc (.cells #[.bool v, .int .u64 ah, .int .u64 al] 26)) #[.int .u64 0, .int .u64 0] 24
 clear hp ha on oa hna k0 k1 hr hd hW hW2 eb
 go_enter Tryz.func136, Tryz.ntmps136
 go_wp2_with fail
 refine (M.out _).mono ?_
 rintro e w1 ⟨rfl, hb1⟩
 have B1 := (B0.trans (hb1.mono B0.size)).alloc (Nat.le_of_lt (Nat.lt_of_le_of_lt (Nat.le_add_right _ 1) (A0.below hb1).lt)) (.cells #[.int .u64 dh, .int .u64 dl] 24)
 have A1 := (A0.below hb1).alloc (.cells #[.int .u64 dh, .int .u64 dl] 24)
 have R1 : Blk (w1.alloc (.cells #[.int .u64 dh, .int .u64 dl] 24)) (w.heap.size + 1 + 1) #[.int .u64 0, .int .u64 0] 24 := (R0.below hb1).alloc (.cells #[.int .u64 dh, .int .u64 dl] 24)
 have D1 : Blk (w1.alloc (.cells #[.int .u64 dh, .int .u64 dl] 24)) w1.heap.size #[.int .u64 dh, .int .u64 dl] 24 := Blk.new _ _ _
 have S0 : AN (w.heap.size + 1) w1.heap.size v ah al dh dl _ := AN.of A1 D1
 have ne1 : w.heap.size + 1 ≠ w.heap.size + 1 + 1 := by omega
 have ne2 : w1.heap.size ≠ w.heap.size + 1 + 1 := Nat.ne_of_gt (R0.below hb1).lt
 clear M hb1 B0 A0 R0 A1 D1
 go_wp2_with fail
 refine wp_region_held_drew (S := (AN (w.heap.size + 1) w1.heap.size v ah al dh dl)) (by kernel_rfl) ?hS400 (fun hHeld => ?rest400)
 case hS400 => with_reducible exact S0.drew
 refine w8 0 ?_ (ga7 rfl) (by kernel_rfl) (fun _ _ _ h => h) ⟨by rfl, ?y401⟩ hHeld ?_
 case y401 => (intro wq hSw; (try simp only [Two, AN] at hSw); go_simp; try with_reducible rfl)
 try simp only [Act.put, a7, b7, c7]
 refine w8 1 ?_ (ga7 rfl) (by kernel_rfl) (fun _ _ _ h => h) ⟨by rfl, ?y402⟩ hHeld ?_
 case y402 => (intro wq hSw; (try simp only [Two, AN] at hSw); go_simp; try with_reducible rfl)
 try simp only [Act.put, a7, b7, c7]
 refine w8 3 ?_ (ga7 rfl) (by kernel_rfl) (fun _ _ _ h => h) ⟨by rfl, ?y403⟩ hHeld ?_
 case y403 => (intro wq hSw; (try simp only [Two, AN] at hSw); go_simp; try with_reducible rfl)
 try simp only [Act.put, a7, b7, c7]
 refine wpAnyH_ready (rs := [2]) (by kernel_rfl) (by simp) ?rdy404
 refine AllReadyH.cons (ga7 rfl) (fun K hK => ?stp404) AllReadyH.nil
 go_simp
 go_wp2_with fail
 (refine (C1.out _).mono ?_; rintro e w3 ⟨rfl, hb3⟩; have B3 : Below w.heap.size w w3 := Below.via hb3 B1 (Nat.le_refl _) rfl rfl rfl rfl)
 go_wp2_with fail
 refine hK.out _ _ ?hSn404 (fun hHeld2 => ?rest404)
 case hSn404 => with_reducible exact hHeld.below hb3
 clear hK K hHeld
 have hHeld := hHeld2
 clear hHeld2
 try simp only [Act.put, a7, b7, c7]
 refine w8 4 ?_ (ga7 rfl) (by kernel_rfl) (fun _ _ _ h => h) ⟨by rfl, ?y405⟩ hHeld ?_
 case y405 => (intro wq hSw; (try simp only [Two, AN] at hSw); go_simp; try with_reducible rfl)
 try simp only [Act.put, a7, b7, c7]
 refine wpAnyH_ready (rs := [5]) (by kernel_rfl) (by simp) ?rdy406
 refine AllReadyH.cons (ga7 rfl) (fun K hK => ?stp406) AllReadyH.nil
 go_simp
 go_wp2_with fail
 (refine (C2.out _).mono ?_; rintro e w4 ⟨rfl, hb4⟩; have B4 : Below w.heap.size w w4 := Below.via hb4 B3 (Nat.le_refl _) rfl rfl rfl rfl; obtain ⟨r0, r1, r2, r3, r4⟩ := ((R1.via hb3 rfl).below hb4).two)
 go_wp2_with fail
 refine hK.out _ _ ?hSn406 (fun hHeld2 => ?rest406)
 case hSn406 => (first | with_reducible exact hHeld.below hb3 | with_reducible exact hHeld.below hb4)
 clear hK K hHeld
 have hHeld := hHeld2
 clear hHeld2
 try simp only [Act.put, a7, b7, c7]
 refine wpAnyH_ready (rs := [6]) (by kernel_rfl) (by simp) ?rdy407
 refine AllReadyH.cons (ga7 rfl) (fun K hK => ?stp407) AllReadyH.nil
 go_simp
 go_wp2_with fail
 skip
 go_wp2_with fail
 refine hK.out _ _ ?hSn407 (fun hHeld2 => ?rest407)
 case hSn407 => (first | with_reducible exact S0.drew | with_reducible exact hHeld.below hb3 | with_reducible exact hHeld.below hb4 | exact hHeld.far2 ne1 ne2 _ _)
 clear hK K hHeld
 have hHeld := hHeld2
 clear hHeld2
 try simp only [Act.put, a7, b7, c7]
 refine wpAnyH_done (by kernel_rfl) ?fin400 _
 clear hHeld hb3 hb4 S0 R1 B1 B3 C1 C2
 go_wp2
 refine bodyPost_ret (v := nv rh rl) (by simp [results, Tryz.results136, go_sem, World.cell?_setCell_same', World.cell?_setCell_other, *]) rfl ⟨rfl, by repeat (first | with_reducible exact Below.refl _ _ | with_reducible refine Below.drew ?_ | with_reducible refine Below.alloc ?_ (by first | omega | (simp <;> omega)) _ | with_reducible refine Below.setCell ?_ (by first | omega | (simp <;> omega)) _ | with_reducible refine Below.trans ?_ (Below.mono B4 (by first | omega | (simp <;> omega))))⟩


/-- What Number keeps: a prefix, an address, its answer. -/
def KM (w : World) (v : Bool) (h l b : Int) (u : Bool) (ah al : Int) (W : World) : Prop :=
 (W.cell? ⟨w.heap.size, 0, none⟩ = some (.bool v) ∧ W.cell? ⟨w.heap.size, 1, none⟩ = some (.int .u64 h) ∧ W.cell? ⟨w.heap.size, 2, none⟩ = some (.int .u64 l) ∧ W.cell? ⟨w.heap.size, 3, none⟩ = some (.int .i64 b) ∧ W.cell? ⟨w.heap.size + 1, 0, none⟩ = some (.bool u) ∧ W.cell? ⟨w.heap.size + 1, 1, none⟩ = some (.int .u64 ah) ∧ W.cell? ⟨w.heap.size + 1, 2, none⟩ = some (.int .u64 al)) ∧ Blk W w.heap.size #[.bool v, .int .u64 h, .int .u64 l, .int .i64 b] 28 ∧ Blk W (w.heap.size + 1) #[.bool u, .int .u64 ah, .int .u64 al] 26 ∧ Below w.heap.size w W

theorem KM.of {w W : World} {v : Bool} {h l b : Int} {u : Bool} {ah al : Int} (x : Blk W w.heap.size #[.bool v, .int .u64 h, .int .u64 l, .int .i64 b] 28) (y : Blk W (w.heap.size + 1) #[.bool u, .int .u64 ah, .int .u64 al] 26) (z : Below w.heap.size w W) : KM w v h l b u ah al W :=
 ⟨⟨x.cell 0, x.cell 1, x.cell 2, x.cell 3, y.cell 0, y.cell 1, y.cell 2⟩, x, y, z⟩

theorem KM.drew {w W : World} {v : Bool} {h l b : Int} {u : Bool} {ah al : Int} (s : KM w v h l b u ah al W) : KM w v h l b u ah al W.drew := KM.of s.2.1 s.2.2.1 s.2.2.2.drew

theorem KM.below {w W w1 : World} {v : Bool} {h l b : Int} {u : Bool} {ah al : Int} (s : KM w v h l b u ah al W) (hb : Below W.heap.size W w1) : KM w v h l b u ah al w1 := KM.of (s.2.1.below hb) (s.2.2.1.below hb) (s.2.2.2.trans (hb.mono s.2.2.2.size))

theorem KM.far2 {w W : World} {v : Bool} {h l b : Int} {u : Bool} {ah al : Int} {D : Nat} (s : KM w v h l b u ah al W) (hd : w.heap.size + 1 < D) (x y : Value) : KM w v h l b u ah al ((W.setCell ⟨D, 0, none⟩ x).setCell ⟨D, 1, none⟩ y) :=
 KM.of (s.2.1.far2 (by omega) _ _) (s.2.2.1.far2 (by omega) _ _) ((s.2.2.2.setCell (by show w.heap.size ≤ D; omega) _).setCell (by show w.heap.size ≤ D; omega) _)

theorem KM.start (w : World) (v : Bool) (h l b : Int) (u : Bool) (ah al : Int) : KM w v h l b u ah al (((w.alloc (.cells #[.bool v, .int .u64 h, .int .u64 l, .int .i64 b] 28)).alloc (.cells #[.bool u, .int .u64 ah, .int .u64 al] 26)).alloc (.cells #[.int .u64 0, .int .u64 0] 24)) ∧ Blk (((w.alloc (.cells #[.bool v, .int .u64 h, .int .u64 l, .int .i64 b] 28)).alloc (.cells #[.bool u, .int .u64 ah, .int .u64 al] 26)).alloc (.cells #[.int .u64 0, .int .u64 0] 24)) (w.heap.size + 1 + 1) #[.int .u64 0, .int .u64 0] 24 :=
 ⟨KM.of (((Blk.new _ _ _).alloc _).alloc _) (Blk.alloc (by simpa using Blk.new (w.alloc (.cells #[.bool v, .int .u64 h, .int .u64 l, .int .i64 b] 28)) #[.bool u, .int .u64 ah, .int .u64 al] 26) _) (by repeat (first | with_reducible exact Below.refl _ _ | with_reducible refine Below.drew ?_ | with_reducible refine Below.alloc ?_ (by first | omega | (simp <;> omega)) _ | with_reducible refine Below.setCell ?_ (by first | omega | (simp <;> omega)) _)), by simpa using Blk.new ((w.alloc (.cells #[.bool v, .int .u64 h, .int .u64 l, .int .i64 b] 28)).alloc (.cells #[.bool u, .int .u64 ah, .int .u64 al] 26)) #[.int .u64 0, .int .u64 0] 24⟩

set_option maxRecDepth 100000 in
set_option maxHeartbeats 800000 in
theorem number_range {v u : Bool} {h l b ah al : Int} {n a : Nat} (hp : IsNum h l n) (ha : IsNum ah al a) (hk : okP v n b = true) (hh : hasB v n b u a = false) (w : World) :
  Calls Tryz.prog 104 #[pv v h l b, av u ah al] w fun e w' => e = .returned (.tuple #[nv 0 0, .int .i64 12]) ∧ Below w.heap.size w w' := by
 have R : Hid (∀ w', Calls Tryz.prog 36 #[pv v h l b] w' fun e w1 => e = .returned (.bool true) ∧ Below w'.heap.size w' w1) := fun w' => hk ▸ pright_c hp w'
 have H : Hid (∀ w', Calls Tryz.prog 135 #[pv v h l b, av u ah al] w' fun e w1 => e = .returned (.bool false) ∧ Below w'.heap.size w' w1) := fun w' => hh ▸ has_c hp ha w'
 have K0 := KM.start w v h l b u ah al
 clear hk hp ha hh
 go_enter Tryz.func104, Tryz.ntmps104
 go_wp2_with fail
 refine (R.out _).mono ?_
 rintro e w1 ⟨rfl, hb1⟩
 have K1 := K0.1.below hb1
 have N1 := K0.2.below hb1
 have F := K1.1
 clear R K0 hb1
 go_wp2_with fail
 refine (H.out _).mono ?_
 rintro e w2 ⟨rfl, hb2⟩
 obtain ⟨r0, r1, r2, r3, r4⟩ := (N1.below hb2).two
 have B2 := (K1.below hb2).2.2.2
 clear H F K1 N1 hb2
 go_wp2
 refine bodyPost_ret (v := .tuple #[nv 0 0, .int .i64 12]) (by simp [results, Tryz.results104, go_sem, World.cell?_setCell_same', World.cell?_setCell_other, *]) rfl ⟨rfl, by repeat (first | with_reducible exact Below.refl _ _ | with_reducible refine Below.drew ?_ | with_reducible refine Below.alloc ?_ (by first | omega | (simp <;> omega)) _ | with_reducible refine Below.setCell ?_ (by first | omega | (simp <;> omega)) _ | with_reducible refine Below.trans ?_ (Below.mono B2 (by first | omega | (simp <;> omega))))⟩

set_option maxRecDepth 100000 in
set_option maxHeartbeats 1600000 in
theorem number_ok {v : Bool} {h l b ah al rh rl : Int} {n a : Nat} (hp : IsNum h l n) (ha : IsNum ah al a) (hh : hasB v n b v a = true) (hr : IsNum rh rl (a - n)) (w : World) :
  Calls Tryz.prog 104 #[pv v h l b, av v ah al] w fun e w' => e = .returned (.tuple #[nv rh rl, .int .i64 0]) ∧ Below w.heap.size w w' := by
 have hk := has_ok hh
 have R : Hid (∀ w', Calls Tryz.prog 36 #[pv v h l b] w' fun e w1 => e = .returned (.bool true) ∧ Below w'.heap.size w' w1) := fun w' => hk ▸ pright_c hp w'
 have H : Hid (∀ w', Calls Tryz.prog 135 #[pv v h l b, av v ah al] w' fun e w1 => e = .returned (.bool true) ∧ Below w'.heap.size w' w1) := fun w' => hh ▸ has_c hp ha w'
 obtain ⟨W, hW⟩ : ∃ W, widthA v = W := ⟨_, rfl⟩
 have hW2 := width_le v
 have C1 : Hid (∀ w', Calls Tryz.prog 35 #[av v ah al] w' fun e w1 => e = .returned (.int .i64 W) ∧ Below w'.heap.size w' w1) := fun w' => width_lit v W hW ah al w'
 have e0 : numN v n W a = a - n := by
  unfold numN behindP; rw [hW, Int.sub_self]; simp
 have C2 : Hid (∀ w', Calls Tryz.prog 136 #[pv v h l b, .int .i64 W, av v ah al] w' fun e w1 => e = .returned (nv rh rl) ∧ Below w'.heap.size w' w1) := fun w' => blockOf_is hp ha (fitsB_parts (okP_parts hk).1).1 (fitsB_parts (has_parts hh).2.1).1 ((has_ends hk hp.lt).1 hh).1 (by omega) (by omega) (hr.cast e0.symm) w'
 have K0 := KM.start w v h l b v ah al
 clear hk hp ha hh hW hW2 e0 hr
 go_enter Tryz.func104, Tryz.ntmps104
 go_wp2_with fail
 refine (R.out _).mono ?_
 rintro e w1 ⟨rfl, hb1⟩
 have K1 := K0.1.below hb1
 have N1 := K0.2.below hb1
 have F := K1.1
 clear R K0 hb1
 go_wp2_with fail
 refine (H.out _).mono ?_
 rintro e w2 ⟨rfl, hb2⟩
 have K2 := K1.below hb2
 have N2 := N1.below hb2
 clear H F K1 N1 hb2
 go_wp2_with fail
 refine wp_region_held_drew (S := (KM w v h l b v ah al)) (by kernel_rfl) ?hS500 (fun hHeld => ?rest500)
 case hS500 => with_reducible exact K2.drew
 refine w8 0 ?_ (ga7 rfl) (by kernel_rfl) (fun _ _ _ h => h) ⟨by rfl, ?y501⟩ hHeld ?_
 case y501 => (intro wq hSw; (try simp only [Two, KM] at hSw); go_simp; try with_reducible rfl)
 try simp only [Act.put, a7, b7, c7]
 refine w8 1 ?_ (ga7 rfl) (by kernel_rfl) (fun _ _ _ h => h) ⟨by rfl, ?y502⟩ hHeld ?_
 case y502 => (intro wq hSw; (try simp only [Two, KM] at hSw); go_simp; try with_reducible rfl)
 try simp only [Act.put, a7, b7, c7]
 refine w8 3 ?_ (ga7 rfl) (by kernel_rfl) (fun _ _ _ h => h) ⟨by rfl, ?y503⟩ hHeld ?_
 case y503 => (intro wq hSw; (try simp only [Two, KM] at hSw); go_simp; try with_reducible rfl)
 try simp only [Act.put, a7, b7, c7]
 refine wpAnyH_ready (rs := [2]) (by kernel_rfl) (by simp) ?rdy504
 refine AllReadyH.cons (ga7 rfl) (fun K hK => ?stp504) AllReadyH.nil
 go_simp
 go_wp2_with fail
 (refine (C1.out _).mono ?_; rintro e w3 ⟨rfl, hb3⟩)
 go_wp2_with fail
 refine hK.out _ _ ?hSn504 (fun hHeld2 => ?rest504)
 case hSn504 => with_reducible exact hHeld.below hb3
 clear hK K hHeld
 have hHeld := hHeld2
 clear hHeld2
 try simp only [Act.put, a7, b7, c7]
 refine wpAnyH_ready (rs := [4]) (by kernel_rfl) (by simp) ?rdy505
 refine AllReadyH.cons (ga7 rfl) (fun K hK => ?stp505) AllReadyH.nil
 go_simp
 go_wp2_with fail
 (refine (C2.out _).mono ?_; rintro e w4 ⟨rfl, hb4⟩; have B4 := (hHeld.below hb4).2.2.2; obtain ⟨r0, r1, r2, r3, r4⟩ := ((N2.via hb3 rfl).below hb4).two)
 go_wp2_with fail
 refine hK.out _ _ ?hSn505 (fun hHeld2 => ?rest505)
 case hSn505 => (first | with_reducible exact hHeld.below hb3 | with_reducible exact hHeld.below hb4)
 clear hK K hHeld
 have hHeld := hHeld2
 clear hHeld2
 try simp only [Act.put, a7, b7, c7]
 refine wpAnyH_ready (rs := [5]) (by kernel_rfl) (by simp) ?rdy506
 refine AllReadyH.cons (ga7 rfl) (fun K hK => ?stp506) AllReadyH.nil
 go_simp
 go_wp2_with fail
 skip
 go_wp2_with fail
 refine hK.out _ _ ?hSn506 (fun hHeld2 => ?rest506)
 case hSn506 => (first | with_reducible exact K2.drew | with_reducible exact hHeld.below hb3 | with_reducible exact hHeld.below hb4 | exact hHeld.far2 (by omega) _ _)
 clear hK K hHeld
 have hHeld := hHeld2
 clear hHeld2
 try simp only [Act.put, a7, b7, c7]
 refine w8 6 ?_ (ga7 rfl) (by kernel_rfl) (fun _ _ _ h => h) ⟨by rfl, ?y507⟩ hHeld ?_
 case y507 => (intro wq hSw; (try simp only [Two, KM] at hSw); go_simp; try with_reducible rfl)
 try simp only [Act.put, a7, b7, c7]
 refine wpAnyH_done (by kernel_rfl) ?fin500 _
 clear hHeld hb3 hb4 K2 N2 C1 C2
 go_wp2
 refine bodyPost_ret (v := .tuple #[nv rh rl, .int .i64 0]) (by simp [results, Tryz.results104, go_sem, World.cell?_setCell_same', World.cell?_setCell_other, *]) rfl ⟨rfl, by repeat (first | with_reducible exact Below.refl _ _ | with_reducible refine Below.drew ?_ | with_reducible refine Below.alloc ?_ (by first | omega | (simp <;> omega)) _ | with_reducible refine Below.setCell ?_ (by first | omega | (simp <;> omega)) _ | with_reducible refine Below.trans ?_ (Below.mono B4 (by first | omega | (simp <;> omega))))⟩
end Go.Proofs.YtgbpnekinbdadaaGreatDoor
