/-
  Texts Pfx7 of the proof.
-/
import Derived.Test.YtipjmmhlfmahbaaGreatDoorP20
import Derived.Test.YtipjmmhlfmahbaaGreatDoorP35

namespace Go.Proofs.YtipjmmhlfmahbaaGreatDoor
open Go.ChangeShapes Go.WideShapes Go.ChangeAt Go.RowKit
set_option linter.unusedVariables false
set_option linter.unusedSimpArgs false

/-- The prefix of a text. -/
def parsePF (l : List UInt8) : Option (Bool × Nat × Nat) :=
  match parseF (cutG [47] l).1 with
  | none => none
  | some (v, a) => match decV (cutG [47] l).2.1 with
    | none => none
    | some n => if okP v a (n : Int) = true then some (v, a, n) else none

/-- What Parse answers. -/
def PParseIs (s : List UInt8) (v : Bool) (h l b c : Int) : Prop := (∃ a k, parsePF s = some (v, a, k) ∧ IsNum h l a ∧ b = (k : Nat) ∧ c = 0) ∨ (parsePF s = none ∧ v = false ∧ h = 0 ∧ l = 0 ∧ b = 0 ∧ c = 4)

theorem PParseIs.uniq {s : List UInt8} {v v' : Bool} {h l b c h' l' b' c' : Int} (x : PParseIs s v h l b c) (y : PParseIs s v' h' l' b' c') : v = v' ∧ h = h' ∧ l = l' ∧ b = b' ∧ c = c' := by
  rcases x with ⟨n, k, h1, h2, h3, h4⟩ | ⟨h1, h2, h3, h4, h5, h6⟩ <;> rcases y with ⟨m, j, k1, k2, k3, k4⟩ | ⟨k1, k2, k3, k4, k5, k6⟩
  · rw [h1] at k1
    obtain ⟨rfl, h7⟩ := Prod.mk.inj (Option.some.inj k1)
    obtain ⟨rfl, rfl⟩ := Prod.mk.inj h7
    obtain ⟨rfl, rfl⟩ := h2.uniq k2
    exact ⟨rfl, rfl, rfl, by omega, by omega⟩
  · rw [h1] at k1; cases k1
  · rw [h1] at k1; cases k1
  · exact ⟨by rw [h2, k2], by omega, by omega, by omega, by omega⟩

/-- What num.Parse answers of the digits. -/
def BitsIs (l : List UInt8) (vh vl ec : Int) : Prop :=
  (ec = 0 ∧ ∃ n, IsNum vh vl n ∧ decV l = (if n < 256 then some n else none)) ∨ ((ec = 4 ∨ ec = 11) ∧ decV l = none)

theorem bits_part (t : ByteArray) (hs : t.size ≤ 1000000) (w : World) :
    Calls Tryz.prog 13 #[.string t] w fun e w' => ∃ vh vl ec : Int, e = .returned (.tuple #[nv vh vl, .int .i64 ec]) ∧ Hid (BitsIs t.data.toList vh vl ec) ∧ Below w.heap.size w w' := by
  have ht : (⟨t.data.toList.toArray⟩ : ByteArray) = t := rfl
  have hl : t.data.toList.length = t.size := by simp
  by_cases hp : Printed t
  · have hv : decV t.data.toList = if valN t t.size < 256 then some (valN t t.size) else none := by
      unfold decV
      rw [ht, hl]
      by_cases h : valN t t.size < 256
      · rw [if_pos ⟨hp, h⟩, if_pos h]
      · rw [if_neg (fun c => h c.2), if_neg h]
    by_cases h39 : 39 < t.size
    · refine (parse_long t hs hp h39 w).mono ?_
      rintro e w' ⟨rfl, hb⟩
      refine ⟨0, 0, 11, rfl, Or.inr ⟨by omega, ?_⟩, hb⟩
      have := valN_ge t hp t.size (by omega) (Nat.le_refl _) (by omega)
      have p : 10 ^ 39 ≤ 10 ^ (t.size - 1) := Nat.pow_le_pow_right (by decide) (by omega)
      have q : (10 : Nat) ^ 39 = 1000000000000000000000000000000000000000 := by decide
      rw [hv, if_neg (by omega)]
    · refine (parse_dig t hp (by omega) w).mono ?_
      rintro e w' (⟨h, l, rfl, hn, hb⟩ | ⟨hbig, rfl, hb⟩)
      · exact ⟨h, l, 0, rfl, Or.inl ⟨rfl, _, hn, hv⟩, hb⟩
      · exact ⟨0, 0, 11, rfl, Or.inr ⟨by omega, by rw [hv, if_neg (by omega)]⟩, hb⟩
  · refine (parse_form t hs hp w).mono ?_
    rintro e w' ⟨rfl, hb⟩
    refine ⟨0, 0, 4, rfl, Or.inr ⟨by omega, ?_⟩, hb⟩
    unfold decV
    rw [ht, if_neg (fun c => hp c.1)]

/-- An address's block and a number's, that are read. -/
def AN (A N : Nat) (v : Bool) (h l nh nl : Int) (wx : World) : Prop :=
  (wx.cell? ⟨A, 0, none⟩ = some (.bool v) ∧ wx.cell? ⟨A, 1, none⟩ = some (.int .u64 h) ∧ wx.cell? ⟨A, 2, none⟩ = some (.int .u64 l) ∧ wx.cell? ⟨N, 0, none⟩ = some (.int .u64 nh) ∧ wx.cell? ⟨N, 1, none⟩ = some (.int .u64 nl)) ∧ Blk wx A #[.bool v, .int .u64 h, .int .u64 l] 26 ∧ Blk wx N #[.int .u64 nh, .int .u64 nl] 24

theorem AN.of {A N : Nat} {v : Bool} {h l nh nl : Int} {wx : World} (x : Blk wx A #[.bool v, .int .u64 h, .int .u64 l] 26) (y : Blk wx N #[.int .u64 nh, .int .u64 nl] 24) : AN A N v h l nh nl wx :=
  ⟨⟨x.cell 0, x.cell 1, x.cell 2, y.cell 0, y.cell 1⟩, x, y⟩

theorem AN.drew {A N : Nat} {v : Bool} {h l nh nl : Int} {wx : World} (s : AN A N v h l nh nl wx) : AN A N v h l nh nl wx.drew := s

theorem AN.below {A N : Nat} {v : Bool} {h l nh nl : Int} {wx w1 : World} (s : AN A N v h l nh nl wx) (hb : Below wx.heap.size wx w1) : AN A N v h l nh nl w1 := AN.of (s.2.1.below hb) (s.2.2.below hb)

/-- What Parse keeps. -/
def PZ (w : World) (A N : Nat) (v : Bool) (h l nh nl : Int) (wr : World) : Prop :=
  Blk wr w.heap.size #[.bool false, .int .u64 0, .int .u64 0, .int .i64 0] 28 ∧ Blk wr A #[.bool v, .int .u64 h, .int .u64 l] 26 ∧ Blk wr N #[.int .u64 nh, .int .u64 nl] 24 ∧ Below w.heap.size w wr

theorem PZ.via {w W W0 w1 : World} {A N : Nat} {v : Bool} {h l nh nl : Int} (s : PZ w A N v h l nh nl W0) (hb : Below W.heap.size W w1) (e : W.heap = W0.heap) (e1 : W.os = W0.os) (e2 : W.tape = W0.tape) (e3 : W.output = W0.output) : PZ w A N v h l nh nl w1 := ⟨s.1.via hb e, s.2.1.via hb e, s.2.2.1.via hb e, Below.via hb s.2.2.2 (Nat.le_refl _) e e1 e2 e3⟩

set_option maxRecDepth 100000 in
set_option maxHeartbeats 3200000 in
/-- Parse: the prefix that a text is read as. -/
theorem pparse_c (S : ByteArray) (hS : S.size ≤ 1000000) (w : World) (hL : LW w) :
    Calls Tryz.prog 5 #[.string S] w fun e w' => ∃ (v : Bool) (h l b c : Int), e = .returned (.tuple #[pv v h l b, .int .i64 c]) ∧ Hid (PParseIs S.data.toList v h l b c) ∧ Below w.heap.size w w' := by
  have hz := hL.sz
  have Lx : Hid (∀ W, Below w.heap.size w W → LW W) := fun W hb => hL.of hb hz
  have cl := cutG_len [47] (by simp) S.data.toList
  have hSl : S.data.toList.length ≤ 1000000 := by simpa using hS
  have CU : ∀ w', LW w' → Calls Tryz.prog 11 #[.string S, .string ⟨#[47]⟩] w' fun e w1 => e = .returned (.tuple #[.string ⟨(cutG [47] S.data.toList).1.toArray⟩, .string ⟨(cutG [47] S.data.toList).2.1.toArray⟩, .bool (cutG [47] S.data.toList).2.2]) ∧ Below w'.heap.size w' w1 := fun w' h => cut_c S ⟨#[47]⟩ (by simp) hS w' h
  obtain ⟨T, hT⟩ : ∃ T : ByteArray, T = ⟨(cutG [47] S.data.toList).1.toArray⟩ := ⟨_, rfl⟩
  obtain ⟨D, hD⟩ : ∃ D : ByteArray, D = ⟨(cutG [47] S.data.toList).2.1.toArray⟩ := ⟨_, rfl⟩
  have hTl : T.data.toList = (cutG [47] S.data.toList).1 := by rw [hT]
  have hDl : D.data.toList = (cutG [47] S.data.toList).2.1 := by rw [hD]
  have sT : T.size ≤ 1000000 := by rw [hT]; simp [ByteArray.size]; omega
  have sD : D.size ≤ 1000000 := by rw [hD]; simp [ByteArray.size]; omega
  have hPF : parsePF S.data.toList = match parseF T.data.toList with
    | none => none
    | some (v, a) => match decV D.data.toList with
      | none => none
      | some n => if okP v a (n : Int) = true then some (v, a, n) else none := by rw [hTl, hDl]; rfl
  rw [← hT, ← hD] at CU
  obtain ⟨M, hM⟩ : ∃ M, M = (cutG [47] S.data.toList).2.2 := ⟨_, rfl⟩
  rw [← hM] at CU
  have CUH : Hid _ := CU
  have AP : Hid (∀ w', LW w' → Calls Tryz.prog 12 #[.string T] w' fun e w1 => ∃ (v : Bool) (h l c : Int), e = .returned (.tuple #[av v h l, .int .i64 c]) ∧ Hid (ParseIs T.data.toList v h l c) ∧ Below w'.heap.size w' w1) := fun w' h => aparse_c T sT w' h
  have NP : Hid (∀ w', Calls Tryz.prog 13 #[.string D] w' fun e w1 => ∃ vh vl ec : Int, e = .returned (.tuple #[nv vh vl, .int .i64 ec]) ∧ Hid (BitsIs D.data.toList vh vl ec) ∧ Below w'.heap.size w' w1) := fun w' => bits_part D sD w'
  obtain ⟨PI, hPI⟩ : ∃ PI, PParseIs S.data.toList = PI := ⟨_, rfl⟩
  have NO : Hid (parsePF S.data.toList = none → PI false 0 0 0 4) := fun h => by rw [← hPI]; exact Or.inr ⟨h, rfl, rfl, rfl, rfl, rfl⟩
  have YES : Hid (∀ v h l b a k, parsePF S.data.toList = some (v, a, k) → IsNum h l a → b = ((k : Nat) : Int) → PI v h l b 0) := fun v h l b a k h1 h2 h3 => by rw [← hPI]; exact Or.inl ⟨a, k, h1, h2, h3, rfl⟩
  rw [hPI]
  generalize parsePF S.data.toList = R at *
  generalize T.data.toList = TL at *
  generalize D.data.toList = DL at *
  have hPFH : Hid _ := hPF
  clear hPF CU hPI hT hD hTl hDl hM cl hSl hL hS sT sD
  go_enter Tryz.func5, Tryz.ntmps5
  go_wp2_with fail
  refine (CUH.out _ (Lx.out _ (by repeat (first | with_reducible exact Below.refl _ _ | with_reducible refine Below.drew ?_ | with_reducible refine Below.alloc ?_ (by first | omega | (simp <;> omega)) _ | with_reducible refine Below.setCell ?_ (by first | omega | (simp <;> omega)) _)))).mono ?_
  rintro e w1 ⟨rfl, hb1⟩
  have R1 : Blk w1 w.heap.size #[.bool false, .int .u64 0, .int .u64 0, .int .i64 0] 28 := (Blk.new _ _ _).below hb1
  have B1 : Below w.heap.size w w1 := by repeat (first | with_reducible exact Below.refl _ _ | with_reducible refine Below.drew ?_ | with_reducible refine Below.alloc ?_ (by first | omega | (simp <;> omega)) _ | with_reducible refine Below.setCell ?_ (by first | omega | (simp <;> omega)) _ | with_reducible refine Below.trans ?_ (Below.mono hb1 (by first | omega | (simp <;> omega))))
  clear hb1 CUH
  go_wp2_with fail
  refine (AP.out _ (Lx.out _ B1)).mono ?_
  rintro e w2 ⟨v, h, l, c, rfl, hp, hb2⟩
  have R2 := R1.below hb2
  have B2 : Below w.heap.size w w2 := B1.trans (hb2.mono B1.size)
  clear hb2 R1 B1 AP
  rcases hp.out with ⟨a, hpa, ha, rfl⟩ | ⟨hpn, rfl, rfl, rfl, rfl⟩
  rotate_left
  · have gx : Hid (PI false 0 0 0 4) := NO.out (by rw [hPFH.out, hpn])
    obtain ⟨r0, r1, r2, r3, r4, r5, r6, r7, r8⟩ := R2.four
    clear hp hpn hPFH NO YES NP
    go_wp2
    refine bodyPost_ret (v := .tuple #[pv false 0 0 0, .int .i64 4]) (by simp [results, Tryz.results5, go_sem, World.cell?_setCell_same', World.cell?_setCell_other, *]) rfl ⟨false, 0, 0, 0, 4, rfl, gx, by repeat (first | with_reducible exact Below.refl _ _ | with_reducible refine Below.drew ?_ | with_reducible refine Below.alloc ?_ (by first | omega | (simp <;> omega)) _ | with_reducible refine Below.setCell ?_ (by first | omega | (simp <;> omega)) _ | with_reducible refine Below.trans ?_ (Below.mono B2 (by first | omega | (simp <;> omega))))⟩
  · have R3 := R2.alloc (.cells #[.bool v, .int .u64 h, .int .u64 l] 26)
    have A3 : Blk (w2.alloc (.cells #[.bool v, .int .u64 h, .int .u64 l] 26)) w2.heap.size #[.bool v, .int .u64 h, .int .u64 l] 26 := Blk.new _ _ _
    have B3 : Below w.heap.size w (w2.alloc (.cells #[.bool v, .int .u64 h, .int .u64 l] 26)) := B2.alloc (Nat.le_of_lt R2.lt) _
    clear hp
    go_wp2_with fail
    refine (NP.out _).mono ?_
    rintro e w4 ⟨nh, nl, ec, rfl, hq, hb4⟩
    have R4 := R3.below hb4
    have A4 := A3.below hb4
    have B4 : Below w.heap.size w w4 := B3.trans (hb4.mono B3.size)
    clear hb4 R2 R3 A3 B2 B3 NP
    go_upto_region 6 with fail
    have S0 : AN w2.heap.size w4.heap.size v h l nh nl (w4.alloc (.cells #[.int .u64 nh, .int .u64 nl] 24)) := AN.of (A4.alloc _) (Blk.new _ _ _)
    have Z4 : PZ w w2.heap.size w4.heap.size v h l nh nl (w4.alloc (.cells #[.int .u64 nh, .int .u64 nl] 24)) := ⟨R4.alloc _, A4.alloc _, Blk.new _ _ _, B4.alloc (Nat.le_of_lt R4.lt) _⟩
    clear R4 A4 B4
    rcases hq.out with ⟨rfl, n, hn, hd⟩ | ⟨hec, hd⟩
    rotate_left
    · have gx : Hid (PI false 0 0 0 4) := NO.out (by rw [hPFH.out, hpa, hd])
      clear hq hd hpa ha hPFH NO YES
      obtain ⟨r0, r1, r2, r3, r4, r5, r6, r7, r8⟩ := Z4.1.four
      have B4 := Z4.2.2.2
      rcases hec with rfl | rfl
      · refine wp_region_held_drew (S := (AN w2.heap.size w4.heap.size v h l nh nl)) (by kernel_rfl) ?hS100 (fun hHeld => ?rest100)
        case hS100 => (first | with_reducible exact S0.drew | with_reducible exact hHeld.below hb5 | with_reducible exact hHeld.below hb6 | with_reducible exact hHeld.below hb7)
        refine wpAnyH_take (i := 0) (oi := _) (v := ?v101) (List.getElem?_toArray.trans rfl) (by kernel_rfl) (by kernel_rfl) (by kernel_rfl) (fun _ _ _ h => h) (Or.inl ⟨by rfl, ?hy101⟩) (by assumption) ?rest101
        case hy101 => (intro wq hSw; (try simp only [Two, AN] at hSw); go_simp; try with_reducible rfl)
        try simp only [Act.put, List.setIfInBounds_toArray, List.set_cons_zero, List.set_cons_succ]
        refine wpAnyH_take (i := 1) (oi := _) (v := ?v102) (List.getElem?_toArray.trans rfl) (by kernel_rfl) (by kernel_rfl) (by kernel_rfl) (fun _ _ _ h => h) (Or.inl ⟨by rfl, ?hy102⟩) (by assumption) ?rest102
        case hy102 => (intro wq hSw; (try simp only [Two, AN] at hSw); go_simp; try with_reducible rfl)
        try simp only [Act.put, List.setIfInBounds_toArray, List.set_cons_zero, List.set_cons_succ]
        refine wpAnyH_take (i := 2) (oi := _) (v := ?v103) (List.getElem?_toArray.trans rfl) (by kernel_rfl) (by kernel_rfl) (by kernel_rfl) (fun _ _ _ h => h) (Or.inl ⟨by rfl, ?hy103⟩) (by assumption) ?rest103
        case hy103 => (intro wq hSw; (try simp only [Two, AN] at hSw); go_simp; try with_reducible rfl)
        try simp only [Act.put, List.setIfInBounds_toArray, List.set_cons_zero, List.set_cons_succ]
        refine wpAnyH_take (i := 3) (oi := _) (v := undef) (List.getElem?_toArray.trans rfl) (by kernel_rfl) (by kernel_rfl) (by kernel_rfl) (fun _ _ _ h => h) (Or.inr ⟨by rfl, rfl⟩) (by assumption) ?rest104
        try simp only [Act.put, List.setIfInBounds_toArray, List.set_cons_zero, List.set_cons_succ]
        refine wpAnyH_take (i := 4) (oi := _) (v := undef) (List.getElem?_toArray.trans rfl) (by kernel_rfl) (by kernel_rfl) (by kernel_rfl) (fun _ _ _ h => h) (Or.inr ⟨by rfl, rfl⟩) (by assumption) ?rest105
        try simp only [Act.put, List.setIfInBounds_toArray, List.set_cons_zero, List.set_cons_succ]
        refine wpAnyH_take (i := 5) (oi := _) (v := undef) (List.getElem?_toArray.trans rfl) (by kernel_rfl) (by kernel_rfl) (by kernel_rfl) (fun _ _ _ h => h) (Or.inr ⟨by rfl, rfl⟩) (by assumption) ?rest106
        try simp only [Act.put, List.setIfInBounds_toArray, List.set_cons_zero, List.set_cons_succ]
        refine wpAnyH_take (i := 6) (oi := _) (v := undef) (List.getElem?_toArray.trans rfl) (by kernel_rfl) (by kernel_rfl) (by kernel_rfl) (fun _ _ _ h => h) (Or.inr ⟨by rfl, rfl⟩) (by assumption) ?rest107
        try simp only [Act.put, List.setIfInBounds_toArray, List.set_cons_zero, List.set_cons_succ]
        refine wpAnyH_take (i := 7) (oi := _) (v := undef) (List.getElem?_toArray.trans rfl) (by kernel_rfl) (by kernel_rfl) (by kernel_rfl) (fun _ _ _ h => h) (Or.inr ⟨by rfl, rfl⟩) (by assumption) ?rest108
        try simp only [Act.put, List.setIfInBounds_toArray, List.set_cons_zero, List.set_cons_succ]
        refine wpAnyH_take (i := 8) (oi := _) (v := undef) (List.getElem?_toArray.trans rfl) (by kernel_rfl) (by kernel_rfl) (by kernel_rfl) (fun _ _ _ h => h) (Or.inr ⟨by rfl, rfl⟩) (by assumption) ?rest109
        try simp only [Act.put, List.setIfInBounds_toArray, List.set_cons_zero, List.set_cons_succ]
        refine wpAnyH_take (i := 9) (oi := _) (v := undef) (List.getElem?_toArray.trans rfl) (by kernel_rfl) (by kernel_rfl) (by kernel_rfl) (fun _ _ _ h => h) (Or.inr ⟨by rfl, rfl⟩) (by assumption) ?rest110
        try simp only [Act.put, List.setIfInBounds_toArray, List.set_cons_zero, List.set_cons_succ]
        refine wpAnyH_take (i := 10) (oi := _) (v := ?v111) (List.getElem?_toArray.trans rfl) (by kernel_rfl) (by kernel_rfl) (by kernel_rfl) (fun _ _ _ h => h) (Or.inl ⟨by rfl, ?hy111⟩) (by assumption) ?rest111
        case hy111 => (intro wq hSw; (try simp only [Two, AN] at hSw); go_simp; try with_reducible rfl)
        try simp only [Act.put, List.setIfInBounds_toArray, List.set_cons_zero, List.set_cons_succ]
        refine wpAnyH_done (by kernel_rfl) ?fin100 _
        go_wp2
        refine bodyPost_ret (v := .tuple #[pv false 0 0 0, .int .i64 4]) (by simp [results, Tryz.results5, go_sem, World.cell?_setCell_same', World.cell?_setCell_other, *]) rfl ⟨false, 0, 0, 0, 4, rfl, gx, by repeat (first | with_reducible exact Below.refl _ _ | with_reducible refine Below.drew ?_ | with_reducible refine Below.alloc ?_ (by first | omega | (simp <;> omega)) _ | with_reducible refine Below.setCell ?_ (by first | omega | (simp <;> omega)) _ | with_reducible refine Below.trans ?_ (Below.mono B4 (by first | omega | (simp <;> omega))))⟩
      · refine wp_region_held_drew (S := (AN w2.heap.size w4.heap.size v h l nh nl)) (by kernel_rfl) ?hS200 (fun hHeld => ?rest200)
        case hS200 => (first | with_reducible exact S0.drew | with_reducible exact hHeld.below hb5 | with_reducible exact hHeld.below hb6 | with_reducible exact hHeld.below hb7)
        refine wpAnyH_take (i := 0) (oi := _) (v := ?v201) (List.getElem?_toArray.trans rfl) (by kernel_rfl) (by kernel_rfl) (by kernel_rfl) (fun _ _ _ h => h) (Or.inl ⟨by rfl, ?hy201⟩) (by assumption) ?rest201
        case hy201 => (intro wq hSw; (try simp only [Two, AN] at hSw); go_simp; try with_reducible rfl)
        try simp only [Act.put, List.setIfInBounds_toArray, List.set_cons_zero, List.set_cons_succ]
        refine wpAnyH_take (i := 1) (oi := _) (v := ?v202) (List.getElem?_toArray.trans rfl) (by kernel_rfl) (by kernel_rfl) (by kernel_rfl) (fun _ _ _ h => h) (Or.inl ⟨by rfl, ?hy202⟩) (by assumption) ?rest202
        case hy202 => (intro wq hSw; (try simp only [Two, AN] at hSw); go_simp; try with_reducible rfl)
        try simp only [Act.put, List.setIfInBounds_toArray, List.set_cons_zero, List.set_cons_succ]
        refine wpAnyH_take (i := 2) (oi := _) (v := ?v203) (List.getElem?_toArray.trans rfl) (by kernel_rfl) (by kernel_rfl) (by kernel_rfl) (fun _ _ _ h => h) (Or.inl ⟨by rfl, ?hy203⟩) (by assumption) ?rest203
        case hy203 => (intro wq hSw; (try simp only [Two, AN] at hSw); go_simp; try with_reducible rfl)
        try simp only [Act.put, List.setIfInBounds_toArray, List.set_cons_zero, List.set_cons_succ]
        refine wpAnyH_take (i := 3) (oi := _) (v := undef) (List.getElem?_toArray.trans rfl) (by kernel_rfl) (by kernel_rfl) (by kernel_rfl) (fun _ _ _ h => h) (Or.inr ⟨by rfl, rfl⟩) (by assumption) ?rest204
        try simp only [Act.put, List.setIfInBounds_toArray, List.set_cons_zero, List.set_cons_succ]
        refine wpAnyH_take (i := 4) (oi := _) (v := undef) (List.getElem?_toArray.trans rfl) (by kernel_rfl) (by kernel_rfl) (by kernel_rfl) (fun _ _ _ h => h) (Or.inr ⟨by rfl, rfl⟩) (by assumption) ?rest205
        try simp only [Act.put, List.setIfInBounds_toArray, List.set_cons_zero, List.set_cons_succ]
        refine wpAnyH_take (i := 5) (oi := _) (v := undef) (List.getElem?_toArray.trans rfl) (by kernel_rfl) (by kernel_rfl) (by kernel_rfl) (fun _ _ _ h => h) (Or.inr ⟨by rfl, rfl⟩) (by assumption) ?rest206
        try simp only [Act.put, List.setIfInBounds_toArray, List.set_cons_zero, List.set_cons_succ]
        refine wpAnyH_take (i := 6) (oi := _) (v := undef) (List.getElem?_toArray.trans rfl) (by kernel_rfl) (by kernel_rfl) (by kernel_rfl) (fun _ _ _ h => h) (Or.inr ⟨by rfl, rfl⟩) (by assumption) ?rest207
        try simp only [Act.put, List.setIfInBounds_toArray, List.set_cons_zero, List.set_cons_succ]
        refine wpAnyH_take (i := 7) (oi := _) (v := undef) (List.getElem?_toArray.trans rfl) (by kernel_rfl) (by kernel_rfl) (by kernel_rfl) (fun _ _ _ h => h) (Or.inr ⟨by rfl, rfl⟩) (by assumption) ?rest208
        try simp only [Act.put, List.setIfInBounds_toArray, List.set_cons_zero, List.set_cons_succ]
        refine wpAnyH_take (i := 8) (oi := _) (v := undef) (List.getElem?_toArray.trans rfl) (by kernel_rfl) (by kernel_rfl) (by kernel_rfl) (fun _ _ _ h => h) (Or.inr ⟨by rfl, rfl⟩) (by assumption) ?rest209
        try simp only [Act.put, List.setIfInBounds_toArray, List.set_cons_zero, List.set_cons_succ]
        refine wpAnyH_take (i := 9) (oi := _) (v := undef) (List.getElem?_toArray.trans rfl) (by kernel_rfl) (by kernel_rfl) (by kernel_rfl) (fun _ _ _ h => h) (Or.inr ⟨by rfl, rfl⟩) (by assumption) ?rest210
        try simp only [Act.put, List.setIfInBounds_toArray, List.set_cons_zero, List.set_cons_succ]
        refine wpAnyH_take (i := 10) (oi := _) (v := ?v211) (List.getElem?_toArray.trans rfl) (by kernel_rfl) (by kernel_rfl) (by kernel_rfl) (fun _ _ _ h => h) (Or.inl ⟨by rfl, ?hy211⟩) (by assumption) ?rest211
        case hy211 => (intro wq hSw; (try simp only [Two, AN] at hSw); go_simp; try with_reducible rfl)
        try simp only [Act.put, List.setIfInBounds_toArray, List.set_cons_zero, List.set_cons_succ]
        refine wpAnyH_done (by kernel_rfl) ?fin200 _
        go_wp2
        refine bodyPost_ret (v := .tuple #[pv false 0 0 0, .int .i64 4]) (by simp [results, Tryz.results5, go_sem, World.cell?_setCell_same', World.cell?_setCell_other, *]) rfl ⟨false, 0, 0, 0, 4, rfl, gx, by repeat (first | with_reducible exact Below.refl _ _ | with_reducible refine Below.drew ?_ | with_reducible refine Below.alloc ?_ (by first | omega | (simp <;> omega)) _ | with_reducible refine Below.setCell ?_ (by first | omega | (simp <;> omega)) _ | with_reducible refine Below.trans ?_ (Below.mono B4 (by first | omega | (simp <;> omega))))⟩
    · have hw2 := width_le v
      obtain ⟨W, hW⟩ : ∃ W, widthA v = W := ⟨_, rfl⟩
      have CW : Hid (∀ w', Calls Tryz.prog 16 #[av v h l] w' fun e w1 => e = .returned (.int .i64 W) ∧ Below w'.heap.size w' w1) := fun w' => width_lit v W hW h l w'
      have hu : IntKind.u64.wrap W = W := by simp [IntKind.wrap, IntKind.bits, IntKind.signed]; omega
      have isW : IsNum 0 W W.toNat := ⟨by omega, by omega, by omega, by omega, by omega⟩
      obtain ⟨k, hk⟩ : ∃ k, k = cmpI (n : Int) (W.toNat : Int) := ⟨_, rfl⟩
      have CC : Hid (∀ w', Calls Tryz.prog 14 #[nv nh nl, nv 0 W] w' fun e w1 => e = .returned (.int .i64 k) ∧ Below w'.heap.size w' w1) := fun w' => by
        refine (cmp_c hn isW w').mono ?_
        rintro e w1 ⟨k', rfl, hk', hb'⟩
        exact ⟨by rw [hk', hk], hb'⟩
      clear hq
      by_cases big : W < (n : Int)
      · have gx : Hid (PI false 0 0 0 4) := NO.out (by
          rw [hPFH.out, hpa, hd]
          by_cases h2 : n < 256
          · rw [if_pos h2]
            have : okP v a (n : Int) = false := by
              cases hx : okP v a (n : Int)
              · rfl
              · have := (fitsB_parts (okP_parts hx).1).2.2
                omega
            simp [this]
          · rw [if_neg h2])
        obtain rfl : k = 1 := by rw [hk]; exact cmpI_gt (by omega)
        clear hk hd hpa ha hPFH NO YES big hW hw2 isW hn
        refine wp_region_held_drew (S := (AN w2.heap.size w4.heap.size v h l nh nl)) (by kernel_rfl) ?hS300 (fun hHeld => ?rest300)
        case hS300 => (first | with_reducible exact S0.drew | with_reducible exact hHeld.below hb5 | with_reducible exact hHeld.below hb6 | with_reducible exact hHeld.below hb7)
        refine wpAnyH_take (i := 0) (oi := _) (v := ?v301) (List.getElem?_toArray.trans rfl) (by kernel_rfl) (by kernel_rfl) (by kernel_rfl) (fun _ _ _ h => h) (Or.inl ⟨by rfl, ?hy301⟩) (by assumption) ?rest301
        case hy301 => (intro wq hSw; (try simp only [Two, AN] at hSw); go_simp; try with_reducible rfl)
        try simp only [Act.put, List.setIfInBounds_toArray, List.set_cons_zero, List.set_cons_succ]
        refine wpAnyH_take (i := 1) (oi := _) (v := ?v302) (List.getElem?_toArray.trans rfl) (by kernel_rfl) (by kernel_rfl) (by kernel_rfl) (fun _ _ _ h => h) (Or.inl ⟨by rfl, ?hy302⟩) (by assumption) ?rest302
        case hy302 => (intro wq hSw; (try simp only [Two, AN] at hSw); go_simp; try with_reducible rfl)
        try simp only [Act.put, List.setIfInBounds_toArray, List.set_cons_zero, List.set_cons_succ]
        refine wpAnyH_take (i := 2) (oi := _) (v := ?v303) (List.getElem?_toArray.trans rfl) (by kernel_rfl) (by kernel_rfl) (by kernel_rfl) (fun _ _ _ h => h) (Or.inl ⟨by rfl, ?hy303⟩) (by assumption) ?rest303
        case hy303 => (intro wq hSw; (try simp only [Two, AN] at hSw); go_simp; try with_reducible rfl)
        try simp only [Act.put, List.setIfInBounds_toArray, List.set_cons_zero, List.set_cons_succ]
        refine wpAnyH_take (i := 3) (oi := _) (v := ?v304) (List.getElem?_toArray.trans rfl) (by kernel_rfl) (by kernel_rfl) (by kernel_rfl) (fun _ _ _ h => h) (Or.inl ⟨by rfl, ?hy304⟩) (by assumption) ?rest304
        case hy304 => (intro wq hSw; (try simp only [Two, AN] at hSw); go_simp; try with_reducible rfl)
        try simp only [Act.put, List.setIfInBounds_toArray, List.set_cons_zero, List.set_cons_succ]
        refine wpAnyH_take (i := 4) (oi := _) (v := ?v305) (List.getElem?_toArray.trans rfl) (by kernel_rfl) (by kernel_rfl) (by kernel_rfl) (fun _ _ _ h => h) (Or.inl ⟨by rfl, ?hy305⟩) (by assumption) ?rest305
        case hy305 => (intro wq hSw; (try simp only [Two, AN] at hSw); go_simp; try with_reducible rfl)
        try simp only [Act.put, List.setIfInBounds_toArray, List.set_cons_zero, List.set_cons_succ]
        refine wpAnyH_ready (rs := [5]) (by kernel_rfl) (by simp) ?rdy306
        refine AllReadyH.cons (List.getElem?_toArray.trans rfl) (fun K hK => ?stp306) AllReadyH.nil
        go_simp
        go_wp2_with fail
        (refine (CW.out _).mono ?_; rintro e w5 ⟨rfl, hb5⟩; have Z5 := Z4.via hb5 rfl rfl rfl rfl)
        go_wp2_with fail
        refine hK.out _ _ ?hSn306 (fun hHeld2 => ?rest306)
        case hSn306 => (first | with_reducible exact S0.drew | with_reducible exact hHeld.below hb5 | with_reducible exact hHeld.below hb6 | with_reducible exact hHeld.below hb7)
        clear hK K hHeld
        have hHeld := hHeld2
        clear hHeld2
        try simp only [Act.put, List.setIfInBounds_toArray, List.set_cons_zero, List.set_cons_succ]
        refine wpAnyH_take (i := 6) (oi := _) (v := ?v307) (List.getElem?_toArray.trans rfl) (by kernel_rfl) (by kernel_rfl) (by kernel_rfl) (fun _ _ _ h => h) (Or.inl ⟨by rfl, ?hy307⟩) (by assumption) ?rest307
        case hy307 => (intro wq hSw; (try simp only [Two, AN] at hSw); go_simp; try with_reducible rfl)
        try simp only [Act.put, List.setIfInBounds_toArray, List.set_cons_zero, List.set_cons_succ]
        refine wpAnyH_ready (rs := [7]) (by kernel_rfl) (by simp) ?rdy308
        refine AllReadyH.cons (List.getElem?_toArray.trans rfl) (fun K hK => ?stp308) AllReadyH.nil
        go_simp
        go_wp2_with fail
        (refine (of_w _ _).mono ?_; rintro e w6 ⟨rfl, hb6⟩; have Z6 := Z5.via hb6 rfl rfl rfl rfl)
        go_wp2_with fail
        refine hK.out _ _ ?hSn308 (fun hHeld2 => ?rest308)
        case hSn308 => (first | with_reducible exact S0.drew | with_reducible exact hHeld.below hb5 | with_reducible exact hHeld.below hb6 | with_reducible exact hHeld.below hb7)
        clear hK K hHeld
        have hHeld := hHeld2
        clear hHeld2
        try simp only [Act.put, List.setIfInBounds_toArray, List.set_cons_zero, List.set_cons_succ]
        refine wpAnyH_ready (rs := [8]) (by kernel_rfl) (by simp) ?rdy309
        refine AllReadyH.cons (List.getElem?_toArray.trans rfl) (fun K hK => ?stp309) AllReadyH.nil
        go_simp
        go_wp2_with fail
        (refine (CC.out _).mono ?_; rintro e w7 ⟨rfl, hb7⟩; have Z7 := Z6.via hb7 rfl rfl rfl rfl)
        go_wp2_with fail
        refine hK.out _ _ ?hSn309 (fun hHeld2 => ?rest309)
        case hSn309 => (first | with_reducible exact S0.drew | with_reducible exact hHeld.below hb5 | with_reducible exact hHeld.below hb6 | with_reducible exact hHeld.below hb7)
        clear hK K hHeld
        have hHeld := hHeld2
        clear hHeld2
        try simp only [Act.put, List.setIfInBounds_toArray, List.set_cons_zero, List.set_cons_succ]
        refine wpAnyH_take (i := 9) (oi := _) (v := ?v310) (List.getElem?_toArray.trans rfl) (by kernel_rfl) (by kernel_rfl) (by kernel_rfl) (fun _ _ _ h => h) (Or.inl ⟨by rfl, ?hy310⟩) (by assumption) ?rest310
        case hy310 => (intro wq hSw; (try simp only [Two, AN] at hSw); go_simp; try with_reducible rfl)
        try simp only [Act.put, List.setIfInBounds_toArray, List.set_cons_zero, List.set_cons_succ]
        refine wpAnyH_take (i := 10) (oi := _) (v := ?v311) (List.getElem?_toArray.trans rfl) (by kernel_rfl) (by kernel_rfl) (by kernel_rfl) (fun _ _ _ h => h) (Or.inl ⟨by rfl, ?hy311⟩) (by assumption) ?rest311
        case hy311 => (intro wq hSw; (try simp only [Two, AN] at hSw); go_simp; try with_reducible rfl)
        try simp only [Act.put, List.setIfInBounds_toArray, List.set_cons_zero, List.set_cons_succ]
        refine wpAnyH_done (by kernel_rfl) ?fin300 _
        obtain ⟨r0, r1, r2, r3, r4, r5, r6, r7, r8⟩ := Z7.1.four
        have B4 := Z7.2.2.2
        go_wp2
        refine bodyPost_ret (v := .tuple #[pv false 0 0 0, .int .i64 4]) (by simp [results, Tryz.results5, go_sem, World.cell?_setCell_same', World.cell?_setCell_other, *]) rfl ⟨false, 0, 0, 0, 4, rfl, gx, by repeat (first | with_reducible exact Below.refl _ _ | with_reducible refine Below.drew ?_ | with_reducible refine Below.alloc ?_ (by first | omega | (simp <;> omega)) _ | with_reducible refine Below.setCell ?_ (by first | omega | (simp <;> omega)) _ | with_reducible refine Below.trans ?_ (Below.mono B4 (by first | omega | (simp <;> omega))))⟩
      · have e1 := hn.eq
        have e2 := hn.h0
        have e3 := hn.l0
        have e4 := hn.l1
        have hnl : nl = (n : Int) := by omega
        have hi : IntKind.i64.wrap nl = nl := by simp [IntKind.wrap, IntKind.bits, IntKind.signed]; omega
        have hd2 : decV DL = some n := by rw [hd, if_pos (by omega)]
        have PR : Hid (∀ w', Calls Tryz.prog 17 #[pv v h l nl] w' fun e w1 => e = .returned (.bool (okP v a nl)) ∧ Below w'.heap.size w' w1) := fun w' => pright_c ha w'
        have NO2 : Hid (okP v a nl = false → PI false 0 0 0 4) := fun h => NO.out (by
          rw [hnl] at h
          rw [hPFH.out, hpa, hd2]; simp [h])
        have YES2 : Hid (okP v a nl = true → PI v h l nl 0) := fun h => YES.out v _ _ nl a n (by
          rw [hnl] at h
          rw [hPFH.out, hpa, hd2]; simp [h]) ha hnl
        generalize okP v a nl = ok at *
        obtain ⟨kb, hkb, hkk⟩ : ∃ kb : Int, kb = k ∧ ¬ (0 < kb) := ⟨k, rfl, by
          rw [hk]; unfold cmpI; split <;> try split
          all_goals omega⟩
        have hkd : decide (0 < k) = false := by rw [← hkb]; exact decide_eq_false hkk
        clear hkb hkk hk hd hd2 hpa ha hPFH NO YES big hW hw2 isW hn e1 e2 e3 e4 hnl
        refine wp_region_held_drew (S := (AN w2.heap.size w4.heap.size v h l nh nl)) (by kernel_rfl) ?hS400 (fun hHeld => ?rest400)
        case hS400 => (first | with_reducible exact S0.drew | with_reducible exact hHeld.below hb5 | with_reducible exact hHeld.below hb6 | with_reducible exact hHeld.below hb7)
        refine wpAnyH_take (i := 0) (oi := _) (v := ?v401) (List.getElem?_toArray.trans rfl) (by kernel_rfl) (by kernel_rfl) (by kernel_rfl) (fun _ _ _ h => h) (Or.inl ⟨by rfl, ?hy401⟩) (by assumption) ?rest401
        case hy401 => (intro wq hSw; (try simp only [Two, AN] at hSw); go_simp; try with_reducible rfl)
        try simp only [Act.put, List.setIfInBounds_toArray, List.set_cons_zero, List.set_cons_succ]
        refine wpAnyH_take (i := 1) (oi := _) (v := ?v402) (List.getElem?_toArray.trans rfl) (by kernel_rfl) (by kernel_rfl) (by kernel_rfl) (fun _ _ _ h => h) (Or.inl ⟨by rfl, ?hy402⟩) (by assumption) ?rest402
        case hy402 => (intro wq hSw; (try simp only [Two, AN] at hSw); go_simp; try with_reducible rfl)
        try simp only [Act.put, List.setIfInBounds_toArray, List.set_cons_zero, List.set_cons_succ]
        refine wpAnyH_take (i := 2) (oi := _) (v := ?v403) (List.getElem?_toArray.trans rfl) (by kernel_rfl) (by kernel_rfl) (by kernel_rfl) (fun _ _ _ h => h) (Or.inl ⟨by rfl, ?hy403⟩) (by assumption) ?rest403
        case hy403 => (intro wq hSw; (try simp only [Two, AN] at hSw); go_simp; try with_reducible rfl)
        try simp only [Act.put, List.setIfInBounds_toArray, List.set_cons_zero, List.set_cons_succ]
        refine wpAnyH_take (i := 3) (oi := _) (v := ?v404) (List.getElem?_toArray.trans rfl) (by kernel_rfl) (by kernel_rfl) (by kernel_rfl) (fun _ _ _ h => h) (Or.inl ⟨by rfl, ?hy404⟩) (by assumption) ?rest404
        case hy404 => (intro wq hSw; (try simp only [Two, AN] at hSw); go_simp; try with_reducible rfl)
        try simp only [Act.put, List.setIfInBounds_toArray, List.set_cons_zero, List.set_cons_succ]
        refine wpAnyH_take (i := 4) (oi := _) (v := ?v405) (List.getElem?_toArray.trans rfl) (by kernel_rfl) (by kernel_rfl) (by kernel_rfl) (fun _ _ _ h => h) (Or.inl ⟨by rfl, ?hy405⟩) (by assumption) ?rest405
        case hy405 => (intro wq hSw; (try simp only [Two, AN] at hSw); go_simp; try with_reducible rfl)
        try simp only [Act.put, List.setIfInBounds_toArray, List.set_cons_zero, List.set_cons_succ]
        refine wpAnyH_ready (rs := [5]) (by kernel_rfl) (by simp) ?rdy406
        refine AllReadyH.cons (List.getElem?_toArray.trans rfl) (fun K hK => ?stp406) AllReadyH.nil
        go_simp
        go_wp2_with fail
        (refine (CW.out _).mono ?_; rintro e w5 ⟨rfl, hb5⟩; have Z5 := Z4.via hb5 rfl rfl rfl rfl)
        go_wp2_with fail
        refine hK.out _ _ ?hSn406 (fun hHeld2 => ?rest406)
        case hSn406 => (first | with_reducible exact S0.drew | with_reducible exact hHeld.below hb5 | with_reducible exact hHeld.below hb6 | with_reducible exact hHeld.below hb7)
        clear hK K hHeld
        have hHeld := hHeld2
        clear hHeld2
        try simp only [Act.put, List.setIfInBounds_toArray, List.set_cons_zero, List.set_cons_succ]
        refine wpAnyH_take (i := 6) (oi := _) (v := ?v407) (List.getElem?_toArray.trans rfl) (by kernel_rfl) (by kernel_rfl) (by kernel_rfl) (fun _ _ _ h => h) (Or.inl ⟨by rfl, ?hy407⟩) (by assumption) ?rest407
        case hy407 => (intro wq hSw; (try simp only [Two, AN] at hSw); go_simp; try with_reducible rfl)
        try simp only [Act.put, List.setIfInBounds_toArray, List.set_cons_zero, List.set_cons_succ]
        refine wpAnyH_ready (rs := [7]) (by kernel_rfl) (by simp) ?rdy408
        refine AllReadyH.cons (List.getElem?_toArray.trans rfl) (fun K hK => ?stp408) AllReadyH.nil
        go_simp
        go_wp2_with fail
        (refine (of_w _ _).mono ?_; rintro e w6 ⟨rfl, hb6⟩; have Z6 := Z5.via hb6 rfl rfl rfl rfl)
        go_wp2_with fail
        refine hK.out _ _ ?hSn408 (fun hHeld2 => ?rest408)
        case hSn408 => (first | with_reducible exact S0.drew | with_reducible exact hHeld.below hb5 | with_reducible exact hHeld.below hb6 | with_reducible exact hHeld.below hb7)
        clear hK K hHeld
        have hHeld := hHeld2
        clear hHeld2
        try simp only [Act.put, List.setIfInBounds_toArray, List.set_cons_zero, List.set_cons_succ]
        refine wpAnyH_ready (rs := [8]) (by kernel_rfl) (by simp) ?rdy409
        refine AllReadyH.cons (List.getElem?_toArray.trans rfl) (fun K hK => ?stp409) AllReadyH.nil
        go_simp
        go_wp2_with fail
        (refine (CC.out _).mono ?_; rintro e w7 ⟨rfl, hb7⟩; have Z7 := Z6.via hb7 rfl rfl rfl rfl)
        go_wp2_with fail
        refine hK.out _ _ ?hSn409 (fun hHeld2 => ?rest409)
        case hSn409 => (first | with_reducible exact S0.drew | with_reducible exact hHeld.below hb5 | with_reducible exact hHeld.below hb6 | with_reducible exact hHeld.below hb7)
        clear hK K hHeld
        have hHeld := hHeld2
        clear hHeld2
        try simp only [Act.put, List.setIfInBounds_toArray, List.set_cons_zero, List.set_cons_succ]
        refine wpAnyH_take (i := 9) (oi := _) (v := ?v410) (List.getElem?_toArray.trans rfl) (by kernel_rfl) (by kernel_rfl) (by kernel_rfl) (fun _ _ _ h => h) (Or.inl ⟨by rfl, ?hy410⟩) (by assumption) ?rest410
        case hy410 => (intro wq hSw; (try simp only [Two, AN] at hSw); go_simp; try with_reducible rfl)
        try simp only [Act.put, List.setIfInBounds_toArray, List.set_cons_zero, List.set_cons_succ]
        refine wpAnyH_take (i := 10) (oi := _) (v := ?v411) (List.getElem?_toArray.trans rfl) (by kernel_rfl) (by kernel_rfl) (by kernel_rfl) (fun _ _ _ h => h) (Or.inl ⟨by rfl, ?hy411⟩) (by assumption) ?rest411
        case hy411 => (intro wq hSw; (try simp only [Two, AN] at hSw); go_simp; try with_reducible rfl)
        try simp only [Act.put, List.setIfInBounds_toArray, List.set_cons_zero, List.set_cons_succ]
        refine wpAnyH_done (by kernel_rfl) ?fin400 _
        obtain ⟨r0, r1, r2, r3, r4, r5, r6, r7, r8⟩ := Z7.1.four
        obtain ⟨a0, a1, a2, a3, a4, a5, a6⟩ := Z7.2.1.three
        obtain ⟨n0, n1, n2, n3, n4⟩ := Z7.2.2.1.two
        have B7 := Z7.2.2.2
        clear hHeld hb5 hb6 hb7 Z4 Z5 Z6 S0 CW CC
        go_wp2_with fail
        refine (PR.out _).mono ?_
        rintro e w8 ⟨rfl, hb8⟩
        have R8 := (Z7.1.alloc (.cells #[.bool v, .int .u64 h, .int .u64 l, .int .i64 nl] 28)).below hb8
        have P8 : Blk w8 w7.heap.size #[.bool v, .int .u64 h, .int .u64 l, .int .i64 nl] 28 := (Blk.new _ _ _).below hb8
        have B8 : Below w.heap.size w w8 := by repeat (first | with_reducible exact Below.refl _ _ | with_reducible refine Below.drew ?_ | with_reducible refine Below.alloc ?_ (by first | omega | (simp <;> omega)) _ | with_reducible refine Below.setCell ?_ (by first | omega | (simp <;> omega)) _ | with_reducible refine Below.trans ?_ (Below.mono hb8 (by first | omega | (simp <;> omega))) | with_reducible refine Below.trans ?_ (Below.mono B7 (by first | omega | (simp <;> omega))))
        have hne : w.heap.size ≠ w7.heap.size := Nat.ne_of_lt r8
        clear r0 r1 r2 r3 r4 r5 r6 r7 r8 a0 a1 a2 a3 a4 a5 a6 n0 n1 n2 n3 n4 Z7 hb8 PR
        obtain ⟨r0, r1, r2, r3, r4, r5, r6, r7, r8⟩ := R8.four
        obtain ⟨p0, p1, p2, p3, p4, p5, p6, p7, p8⟩ := P8.four
        cases ok
        · have gx := NO2.out rfl
          go_wp2
          refine bodyPost_ret (v := .tuple #[pv false 0 0 0, .int .i64 4]) (by simp [results, Tryz.results5, go_sem, World.cell?_setCell_same', World.cell?_setCell_other, *]) rfl ⟨false, 0, 0, 0, 4, rfl, gx, by repeat (first | with_reducible exact Below.refl _ _ | with_reducible refine Below.drew ?_ | with_reducible refine Below.alloc ?_ (by first | omega | (simp <;> omega)) _ | with_reducible refine Below.setCell ?_ (by first | omega | (simp <;> omega)) _ | with_reducible refine Below.trans ?_ (Below.mono B8 (by first | omega | (simp <;> omega))))⟩
        · have gx := YES2.out rfl
          go_wp2
          refine bodyPost_ret (v := .tuple #[pv v h l nl, .int .i64 0]) (by simp [results, Tryz.results5, go_sem, World.cell?_setCell_same', World.cell?_setCell_other, *]) rfl ⟨v, h, l, nl, 0, rfl, gx, by repeat (first | with_reducible exact Below.refl _ _ | with_reducible refine Below.drew ?_ | with_reducible refine Below.alloc ?_ (by first | omega | (simp <;> omega)) _ | with_reducible refine Below.setCell ?_ (by first | omega | (simp <;> omega)) _ | with_reducible refine Below.trans ?_ (Below.mono B8 (by first | omega | (simp <;> omega))))⟩

theorem pparse_is (S : ByteArray) (hS : S.size ≤ 1000000) {v : Bool} {h l b c : Int} (hp : PParseIs S.data.toList v h l b c) (w : World) (hL : LW w) :
    Calls Tryz.prog 5 #[.string S] w fun e w' => e = .returned (.tuple #[pv v h l b, .int .i64 c]) ∧ Below w.heap.size w w' := by
  refine (pparse_c S hS w hL).mono ?_
  rintro e w' ⟨v', h', l', b', c', rfl, hp', hb⟩
  obtain ⟨rfl, rfl, rfl, rfl, rfl⟩ := hp'.out.uniq hp
  exact ⟨rfl, hb⟩
end Go.Proofs.YtipjmmhlfmahbaaGreatDoor
