/-
  Texts AParse of the proof.
-/
import Derived.Test.YtipjmmhlfmahbaaGreatDoorP19
import Derived.Test.YtipjmmhlfmahbaaGreatDoorP16

namespace Go.Proofs.YtipjmmhlfmahbaaGreatDoor
open Go.ChangeShapes Go.WideShapes Go.ChangeAt Go.RowKit
set_option linter.unusedVariables false
set_option linter.unusedSimpArgs false

/-- The number of a long address's text. -/
def longF (l : List UInt8) : Option Nat :=
  if (cutG [58, 58] l).2.2 = true then match groupsF false (cutG [58, 58] l).1, groupsF true (cutG [58, 58] l).2.1 with
    | some (a, i), some (b, j) => if i + j < 8 then some (a * 2 ^ (16 * (8 - i)) + b) else none
    | _, _ => none
  else match groupsF true l with
    | some (a, i) => if i = 8 then some a else none
    | none => none

/-- What readLong answers. -/
def LongIs (s : List UInt8) (h l : Int) (ok : Bool) : Prop := (∃ n, longF s = some n ∧ IsNum h l n ∧ ok = true) ∨ (longF s = none ∧ h = 0 ∧ l = 0 ∧ ok = false)

theorem long_math {a b i j : Nat} (ha : a < 2 ^ (16 * i)) (hb : b < 2 ^ (16 * j)) (hij : i + j < 8) :
    (((a * 2 ^ (16 * (8 - i - j)) % 340282366920938463463374607431768211456) ||| 0) * 2 ^ (16 * j) % 340282366920938463463374607431768211456) ||| b = a * 2 ^ (16 * (8 - i)) + b := by
  have h1 := two16 (n := a) (k := i) (v := 0) (s := 8 - i - j) ha (by omega) (Nat.pow_pos (by decide))
  have h2 := two16 (n := a * 2 ^ (16 * (8 - i - j)) + 0) (k := i + (8 - i - j)) (v := b) (s := j) h1.2 (by omega) hb
  rw [h1.1, h2.1, Nat.add_zero, Nat.mul_assoc, ← Nat.pow_add, ← Nat.mul_add, show 8 - i - j + j = 8 - i by omega]

/-- Two blocks of groups that are read. -/
def LG (B1 B2 : Nat) (a1 a2 a3 b1 b2 b3 : Value) (wx : World) : Prop :=
  (wx.cell? ⟨B1, 0, none⟩ = some a1 ∧ wx.cell? ⟨B1, 1, none⟩ = some a2 ∧ wx.cell? ⟨B1, 2, none⟩ = some a3) ∧ (wx.cell? ⟨B2, 0, none⟩ = some b1 ∧ wx.cell? ⟨B2, 1, none⟩ = some b2 ∧ wx.cell? ⟨B2, 2, none⟩ = some b3) ∧
  Blk wx B1 #[a1, a2, a3] 75 ∧ Blk wx B2 #[b1, b2, b3] 75

theorem LG.of {B1 B2 : Nat} {a1 a2 a3 b1 b2 b3 : Value} {wx : World} (a : Blk wx B1 #[a1, a2, a3] 75) (b : Blk wx B2 #[b1, b2, b3] 75) : LG B1 B2 a1 a2 a3 b1 b2 b3 wx :=
  ⟨⟨a.cell 0, a.cell 1, a.cell 2⟩, ⟨b.cell 0, b.cell 1, b.cell 2⟩, a, b⟩

theorem LG.drew {B1 B2 : Nat} {a1 a2 a3 b1 b2 b3 : Value} {wx : World} (s : LG B1 B2 a1 a2 a3 b1 b2 b3 wx) : LG B1 B2 a1 a2 a3 b1 b2 b3 wx.drew := s

theorem LG.below {B1 B2 : Nat} {a1 a2 a3 b1 b2 b3 : Value} {wx w1 : World} (s : LG B1 B2 a1 a2 a3 b1 b2 b3 wx) (hb : Below wx.heap.size wx w1) : LG B1 B2 a1 a2 a3 b1 b2 b3 w1 := LG.of (s.2.2.1.below hb) (s.2.2.2.below hb)

theorem LG.far {B1 B2 B : Nat} {a1 a2 a3 b1 b2 b3 : Value} {wx : World} (s : LG B1 B2 a1 a2 a3 b1 b2 b3 wx) (h1 : B1 ≠ B) (h2 : B2 ≠ B) (x y : Value) : LG B1 B2 a1 a2 a3 b1 b2 b3 ((wx.setCell ⟨B, 0, none⟩ x).setCell ⟨B, 1, none⟩ y) :=
  LG.of (s.2.2.1.far2 h1 _ _) (s.2.2.2.far2 h2 _ _)

/-- What readLong keeps of its result. -/
def RB (w : World) (wr : World) : Prop := Blk wr w.heap.size #[.int .u64 0, .int .u64 0] 24 ∧ Below w.heap.size w wr

theorem RB.below {w W w1 : World} (s : RB w W) (hb : Below W.heap.size W w1) : RB w w1 := ⟨s.1.below hb, s.2.trans (hb.mono s.2.size)⟩

theorem RB.alloc {w W : World} (s : RB w W) (o : Obj) : RB w (W.alloc o) := ⟨s.1.alloc o, s.2.alloc (Nat.le_of_lt s.1.lt) o⟩

theorem RB.drew {w W : World} (s : RB w W) : RB w W.drew := ⟨s.1, s.2.drew⟩

set_option maxRecDepth 100000 in
set_option maxHeartbeats 3200000 in
theorem readLong_one (S : ByteArray) (hS : S.size ≤ 1000000) (hcut : (cutG [58, 58] S.data.toList).2.2 = false) (w : World) (hL : LW w) :
    Calls Tryz.prog 31 #[.string S] w fun e w' => ∃ (h l : Int) (ok : Bool), e = .returned (.tuple #[nv h l, .bool ok]) ∧ Hid (LongIs S.data.toList h l ok) ∧ Below w.heap.size w w' := by
  have hz := hL.sz
  have Lx : ∀ W, Below w.heap.size w W → LW W := fun W hb => hL.of hb hz
  have R0 : RB w (w.alloc (.cells #[.int .u64 0, .int .u64 0] 24)) := ⟨Blk.new _ _ _, by repeat (first | with_reducible exact Below.refl _ _ | with_reducible refine Below.drew ?_ | with_reducible refine Below.alloc ?_ (by first | omega | (simp <;> omega)) _ | with_reducible refine Below.setCell ?_ (by first | omega | (simp <;> omega)) _)⟩
  have CC := cut_c S ⟨#[58, 58]⟩ (by simp) hS _ (Lx _ R0.2)
  simp only [] at CC
  rw [hcut] at CC
  have hF : longF S.data.toList = match groupsF true S.data.toList with
    | some (a, i) => if i = 8 then some a else none
    | none => none := by unfold longF; rw [if_neg (by rw [hcut]; simp)]
  obtain ⟨X, hX⟩ : ∃ X : ByteArray, X = ⟨(cutG [58, 58] S.data.toList).1.toArray⟩ := ⟨_, rfl⟩
  obtain ⟨Y, hY⟩ : ∃ Y : ByteArray, Y = ⟨(cutG [58, 58] S.data.toList).2.1.toArray⟩ := ⟨_, rfl⟩
  rw [← hX, ← hY] at CC
  clear hX hY hcut hL
  have HF : Hid _ := hF
  clear hF
  obtain ⟨GI, hGI⟩ : ∃ GI, LongIs S.data.toList = GI := ⟨_, rfl⟩
  have bad : Hid (longF S.data.toList = none → GI 0 0 false) := fun h => by rw [← hGI]; exact Or.inr ⟨h, rfl, rfl, rfl⟩
  have good : Hid (∀ (h l : Int) (n : Nat), longF S.data.toList = some n → IsNum h l n → GI h l true) := fun h l n h1 h3 => by rw [← hGI]; exact Or.inl ⟨n, h1, h3, rfl⟩
  rw [hGI]
  clear hGI
  go_enter Tryz.func31, Tryz.ntmps31
  go_wp2_with fail
  refine CC.mono ?_
  rintro e w1 ⟨rfl, hb1⟩
  have R1 := R0.below hb1
  clear CC R0 hb1
  go_wp2_with fail
  refine (readGroups_w true S hS _ (Lx _ R1.2)).mono ?_
  rintro e w2 ⟨h, l, c, ok, rfl, hg, hb2⟩
  have R2 := R1.below hb2
  clear R1 hb2 Lx
  obtain ⟨O0, O1, O2, O3, O4⟩ := R2.1.two
  have hB := R2.2
  rcases hg.out with ⟨n, k, hgf, hn, hn16, hk, hck, rfl⟩ | ⟨hgf, rfl, rfl, rfl, rfl⟩
  · by_cases h8 : k = 8
    · have gx : Hid (GI h l true) := good.out h l n (by rw [HF.out, hgf]; simp [h8]) hn
      have c8 : (c == 8) = true := by rw [beq_iff_eq]; omega
      have c8' : (c != 8) = false := by simp [bne, c8]
      clear hg hgf hn hn16 hk hck h8 bad good HF
      go_wp2
      refine bodyPost_ret (v := .tuple #[nv h l, .bool true]) (by simp [results, Tryz.results31, go_sem, World.cell?_setCell_same', World.cell?_setCell_other, *]) rfl ⟨h, l, true, rfl, gx, by repeat (first | with_reducible exact Below.refl _ _ | with_reducible refine Below.drew ?_ | with_reducible refine Below.alloc ?_ (by first | omega | (simp <;> omega)) _ | with_reducible refine Below.setCell ?_ (by first | omega | (simp <;> omega)) _ | with_reducible refine Below.trans ?_ (Below.mono hB (by first | omega | (simp <;> omega))))⟩
    · have gx : Hid (GI 0 0 false) := bad.out (by rw [HF.out, hgf]; simp [h8])
      have c8 : (c == 8) = false := by rw [beq_eq_false_iff_ne]; omega
      have c8' : (c != 8) = true := by simp [bne, c8]
      clear hg hgf hn hn16 hk hck h8 bad good HF
      go_wp2
      refine bodyPost_ret (v := .tuple #[nv 0 0, .bool false]) (by simp [results, Tryz.results31, go_sem, World.cell?_setCell_same', World.cell?_setCell_other, *]) rfl ⟨0, 0, false, rfl, gx, by repeat (first | with_reducible exact Below.refl _ _ | with_reducible refine Below.drew ?_ | with_reducible refine Below.alloc ?_ (by first | omega | (simp <;> omega)) _ | with_reducible refine Below.setCell ?_ (by first | omega | (simp <;> omega)) _ | with_reducible refine Below.trans ?_ (Below.mono hB (by first | omega | (simp <;> omega))))⟩
  · have gx : Hid (GI 0 0 false) := bad.out (by rw [HF.out, hgf])
    clear hg hgf bad good HF
    go_wp2
    refine bodyPost_ret (v := .tuple #[nv 0 0, .bool false]) (by simp [results, Tryz.results31, go_sem, World.cell?_setCell_same', World.cell?_setCell_other, *]) rfl ⟨0, 0, false, rfl, gx, by repeat (first | with_reducible exact Below.refl _ _ | with_reducible refine Below.drew ?_ | with_reducible refine Below.alloc ?_ (by first | omega | (simp <;> omega)) _ | with_reducible refine Below.setCell ?_ (by first | omega | (simp <;> omega)) _ | with_reducible refine Below.trans ?_ (Below.mono hB (by first | omega | (simp <;> omega))))⟩
end Go.Proofs.YtipjmmhlfmahbaaGreatDoor

namespace Go.Proofs.YtipjmmhlfmahbaaGreatDoor
open Go.ChangeShapes Go.WideShapes Go.ChangeAt Go.RowKit
set_option linter.unusedVariables false
set_option linter.unusedSimpArgs false

set_option maxRecDepth 100000 in
set_option maxHeartbeats 1600000 in
theorem readLong_two (S : ByteArray) (hS : S.size ≤ 1000000) (hcut : (cutG [58, 58] S.data.toList).2.2 = true) (w : World) (hL : LW w) :
    Calls Tryz.prog 31 #[.string S] w fun e w' => ∃ (h l : Int) (ok : Bool), e = .returned (.tuple #[nv h l, .bool ok]) ∧ Hid (LongIs S.data.toList h l ok) ∧ Below w.heap.size w w' := by
  have hz := hL.sz
  have Lx : ∀ W, Below w.heap.size w W → LW W := fun W hb => hL.of hb hz
  have R0 : RB w (w.alloc (.cells #[.int .u64 0, .int .u64 0] 24)) := ⟨Blk.new _ _ _, by repeat (first | with_reducible exact Below.refl _ _ | with_reducible refine Below.drew ?_ | with_reducible refine Below.alloc ?_ (by first | omega | (simp <;> omega)) _ | with_reducible refine Below.setCell ?_ (by first | omega | (simp <;> omega)) _)⟩
  have CC := cut_c S ⟨#[58, 58]⟩ (by simp) hS _ (Lx _ R0.2)
  simp only [] at CC
  rw [hcut] at CC
  have hF : longF S.data.toList = match groupsF false (cutG [58, 58] S.data.toList).1, groupsF true (cutG [58, 58] S.data.toList).2.1 with
    | some (a, i), some (b, j) => if i + j < 8 then some (a * 2 ^ (16 * (8 - i)) + b) else none
    | _, _ => none := by
      unfold longF
      rw [if_pos hcut] <;> (rcases groupsF false (cutG [58, 58] S.data.toList).1 with _ | ⟨a, i⟩ <;> rcases groupsF true (cutG [58, 58] S.data.toList).2.1 with _ | ⟨b, j⟩ <;> rfl)
  have cl := cutG_len [58, 58] (by simp) S.data.toList
  have sl : S.data.toList.length = S.size := by simp
  obtain ⟨X, hX⟩ : ∃ X : ByteArray, X = ⟨(cutG [58, 58] S.data.toList).1.toArray⟩ := ⟨_, rfl⟩
  obtain ⟨Y, hY⟩ : ∃ Y : ByteArray, Y = ⟨(cutG [58, 58] S.data.toList).2.1.toArray⟩ := ⟨_, rfl⟩
  have xl : X.data.toList = (cutG [58, 58] S.data.toList).1 := by rw [hX]
  have yl : Y.data.toList = (cutG [58, 58] S.data.toList).2.1 := by rw [hY]
  have xs : X.size ≤ 1000000 := by rw [hX]; show (cutG [58, 58] S.data.toList).1.toArray.size ≤ 1000000; rw [List.size_toArray]; omega
  have ys : Y.size ≤ 1000000 := by rw [hY]; show (cutG [58, 58] S.data.toList).2.1.toArray.size ≤ 1000000; rw [List.size_toArray]; omega
  rw [← hX, ← hY] at CC
  rw [← xl, ← yl] at hF
  clear hX hY hcut hL xl yl cl sl
  have HF : Hid _ := hF
  clear hF
  obtain ⟨GI, hGI⟩ : ∃ GI, LongIs S.data.toList = GI := ⟨_, rfl⟩
  have bad : Hid (longF S.data.toList = none → GI 0 0 false) := fun h => by rw [← hGI]; exact Or.inr ⟨h, rfl, rfl, rfl⟩
  have good : Hid (∀ (h l : Int) (n : Nat), longF S.data.toList = some n → IsNum h l n → GI h l true) := fun h l n h1 h3 => by rw [← hGI]; exact Or.inl ⟨n, h1, h3, rfl⟩
  rw [hGI]
  clear hGI
  go_enter Tryz.func31, Tryz.ntmps31
  go_wp2_with fail
  refine CC.mono ?_
  rintro e w1 ⟨rfl, hb1⟩
  have R1 := R0.below hb1
  clear CC R0 hb1
  go_wp2_with fail
  refine (readGroups_w false X xs _ (Lx _ R1.2)).mono ?_
  rintro e w2 ⟨h, l, c, ok, rfl, hg, hb2⟩
  have R2 := R1.below hb2
  have wlt : w.heap.size < w2.heap.size := R2.1.lt
  have R3 := R2.alloc (.cells #[.int .u64 h, .int .u64 l, .int .i64 c] 75)
  have K3 : Blk (w2.alloc (.cells #[.int .u64 h, .int .u64 l, .int .i64 c] 75)) w2.heap.size #[.int .u64 h, .int .u64 l, .int .i64 c] 75 := Blk.new _ _ _
  clear R1 R2 hb2
  go_wp2_with fail
  refine (readGroups_w true Y ys _ (Lx _ R3.2)).mono ?_
  rintro e w4 ⟨h2, l2, c2, ok2, rfl, hg2, hb4⟩
  have R4 := R3.below hb4
  have K4 := K3.below hb4
  have B24 : w2.heap.size < w4.heap.size := K4.lt
  clear R3 K3 hb4 Lx xs ys
  obtain ⟨O0, O1, O2, O3, O4⟩ := R4.1.two
  obtain ⟨N0, N1, N2, N3, N4, N5, N6⟩ := K4.three
  have hB := R4.2
  have cb : 0 ≤ c ∧ c ≤ 8 := by
    rcases hg.out with ⟨n, k, _, _, _, hk, hck, _⟩ | ⟨_, _, _, hc, _⟩ <;> omega
  have cb2 : 0 ≤ c2 ∧ c2 ≤ 8 := by
    rcases hg2.out with ⟨n, k, _, _, _, hk, hck, _⟩ | ⟨_, _, _, hc, _⟩ <;> omega
  obtain ⟨cb, cb'⟩ := cb
  obtain ⟨cb2, cb2'⟩ := cb2
  by_cases hgood : ok = true ∧ ok2 = true ∧ c + c2 < 8
  · obtain ⟨rfl, rfl, h8⟩ := hgood
    obtain ⟨n, k, hgf, hn, hn16, hk, hck, _⟩ : ∃ n k, groupsF false X.data.toList = some (n, k) ∧ IsNum h l n ∧ n < 2 ^ (16 * k) ∧ k ≤ 8 ∧ c = (k : Int) ∧ true = true := by
      rcases hg.out with h | ⟨_, _, _, _, h⟩
      · exact h
      · cases h
    obtain ⟨n2, k2, hgf2, hn2, hn162, hk2, hck2, _⟩ : ∃ n k, groupsF true Y.data.toList = some (n, k) ∧ IsNum h2 l2 n ∧ n < 2 ^ (16 * k) ∧ k ≤ 8 ∧ c2 = (k : Int) ∧ true = true := by
      rcases hg2.out with h | ⟨_, _, _, _, h⟩
      · exact h
      · cases h
    have kk : k + k2 < 8 := by omega
    obtain ⟨d, hd⟩ : ∃ d : Int, d = 8 - c - c2 := ⟨_, rfl⟩
    have d0 : 1 ≤ d := by omega
    have d1 : d ≤ 8 := by omega
    have z : IsNum 0 0 0 := ⟨by omega, by omega, by omega, by omega, rfl⟩
    obtain ⟨rh, rl, hr⟩ := IsNum.ex (n := (n * 2 ^ (16 * d).toNat % 340282366920938463463374607431768211456) ||| 0) (Nat.or_lt_two_pow (n := 128) (Nat.mod_lt _ (by decide)) (by decide))
    obtain ⟨sh, sl, hs⟩ := IsNum.ex (n := (((n * 2 ^ (16 * d).toNat % 340282366920938463463374607431768211456) ||| 0) * 2 ^ (16 * c2).toNat % 340282366920938463463374607431768211456) ||| n2) (Nat.or_lt_two_pow (n := 128) (Nat.mod_lt _ (by decide)) hn2.lt)
    have W1 : Hid (∀ w, Calls Tryz.prog 56 #[gv h l c, nv 0 0, .int .i64 d] w fun e w' => e = .returned (gv rh rl (c + d)) ∧ Below w.heap.size w w') := fun w => with_c hn z cb (by omega) (by omega) (by omega) hr w
    have W2 : Hid (∀ w, Calls Tryz.prog 56 #[gv rh rl (c + d), nv h2 l2, .int .i64 c2] w fun e w' => e = .returned (gv sh sl (c + d + c2)) ∧ Below w.heap.size w w') := fun w => with_c hr hn2 (by omega) (by omega) (by omega) (by omega) hs w
    have gx : Hid (GI sh sl true) := by
      refine good.out sh sl (n * 2 ^ (16 * (8 - k)) + n2) ?_ (hs.cast ?_)
      · rw [HF.out, hgf, hgf2]
        show (if k + k2 < 8 then _ else none) = _
        rw [if_pos kk]
      · rw [show (16 * d).toNat = 16 * (8 - k - k2) by omega, show (16 * c2).toNat = 16 * k2 by omega]
        exact long_math hn16 hn162 kk
    have hm : ¬ d < 1 := by omega
    have hfd : ∀ (w : World) (x : Int), (Instr.field 75 (gv sh sl x) 0).run Tryz.prog w = .ok (nv sh sl) w := fun _ _ => by kernel_rfl
    have R5 := R4.alloc (.cells #[.int .u64 h2, .int .u64 l2, .int .i64 c2] 75)
    have S0 : LG w2.heap.size w4.heap.size (.int .u64 h) (.int .u64 l) (.int .i64 c) (.int .u64 h2) (.int .u64 l2) (.int .i64 c2) (w4.alloc (.cells #[.int .u64 h2, .int .u64 l2, .int .i64 c2] 75)) := LG.of (K4.alloc _) (Blk.new _ _ _)
    have ne1 : w2.heap.size ≠ w.heap.size := by omega
    have ne2 : w4.heap.size ≠ w.heap.size := by omega
    have hd' : 8 - c - c2 = d := hd.symm
    clear hg hg2 hgf hgf2 hn hn2 hn16 hn162 hk hk2 hck hck2 z hr hs bad good HF kk h8 hd
    go_wp2_with fail
    refine wp_region_held_drew (S := (LG w2.heap.size w4.heap.size (.int .u64 h) (.int .u64 l) (.int .i64 c) (.int .u64 h2) (.int .u64 l2) (.int .i64 c2))) (by kernel_rfl) ?hS100 (fun hHeld => ?rest100)
    case hS100 => (first | with_reducible exact S0.drew | exact hHeld.below hb6 | exact hHeld.below hb7 | exact hHeld.far ne1 ne2 _ _)
    refine wpAnyH_take (i := 0) (oi := _) (v := ?v101) (List.getElem?_toArray.trans rfl) (by kernel_rfl) (by kernel_rfl) (by kernel_rfl) (fun _ _ _ h => h) (Or.inl ⟨by rfl, ?hy101⟩) (by assumption) ?rest101
    case hy101 => (intro wq hSw; (try simp only [Two, LG] at hSw); go_simp; try with_reducible rfl)
    try simp only [Act.put, List.setIfInBounds_toArray, List.set_cons_zero, List.set_cons_succ]
    refine wpAnyH_take (i := 1) (oi := _) (v := ?v102) (List.getElem?_toArray.trans rfl) (by kernel_rfl) (by kernel_rfl) (by kernel_rfl) (fun _ _ _ h => h) (Or.inl ⟨by rfl, ?hy102⟩) (by assumption) ?rest102
    case hy102 => (intro wq hSw; (try simp only [Two, LG] at hSw); go_simp; try with_reducible rfl)
    try simp only [Act.put, List.setIfInBounds_toArray, List.set_cons_zero, List.set_cons_succ]
    refine wpAnyH_take (i := 2) (oi := _) (v := ?v103) (List.getElem?_toArray.trans rfl) (by kernel_rfl) (by kernel_rfl) (by kernel_rfl) (fun _ _ _ h => h) (Or.inl ⟨by rfl, ?hy103⟩) (by assumption) ?rest103
    case hy103 => (intro wq hSw; (try simp only [Two, LG] at hSw); go_simp; try with_reducible rfl)
    try simp only [Act.put, List.setIfInBounds_toArray, List.set_cons_zero, List.set_cons_succ]
    refine wpAnyH_take (i := 4) (oi := _) (v := ?v104) (List.getElem?_toArray.trans rfl) (by kernel_rfl) (by kernel_rfl) (by kernel_rfl) (fun _ _ _ h => h) (Or.inl ⟨by rfl, ?hy104⟩) (by assumption) ?rest104
    case hy104 => (intro wq hSw; (try simp only [Two, LG] at hSw); go_simp; try with_reducible rfl)
    try simp only [Act.put, List.setIfInBounds_toArray, List.set_cons_zero, List.set_cons_succ]
    refine wpAnyH_take (i := 5) (oi := _) (v := ?v105) (List.getElem?_toArray.trans rfl) (by kernel_rfl) (by kernel_rfl) (by kernel_rfl) (fun _ _ _ h => h) (Or.inl ⟨by rfl, ?hy105⟩) (by assumption) ?rest105
    case hy105 => (intro wq hSw; (try simp only [Two, LG] at hSw); go_simp; try with_reducible rfl)
    try simp only [Act.put, List.setIfInBounds_toArray, List.set_cons_zero, List.set_cons_succ]
    refine wpAnyH_take (i := 6) (oi := _) (v := ?v106) (List.getElem?_toArray.trans rfl) (by kernel_rfl) (by kernel_rfl) (by kernel_rfl) (fun _ _ _ h => h) (Or.inl ⟨by rfl, ?hy106⟩) (by assumption) ?rest106
    case hy106 => (intro wq hSw; (try simp only [Two, LG] at hSw); go_simp; try with_reducible rfl)
    try simp only [Act.put, List.setIfInBounds_toArray, List.set_cons_zero, List.set_cons_succ]
    refine wpAnyH_take (i := 7) (oi := _) (v := ?v107) (List.getElem?_toArray.trans rfl) (by kernel_rfl) (by kernel_rfl) (by kernel_rfl) (fun _ _ _ h => h) (Or.inl ⟨by rfl, ?hy107⟩) (by assumption) ?rest107
    case hy107 => (intro wq hSw; (try simp only [Two, LG] at hSw); go_simp; try with_reducible rfl)
    try simp only [Act.put, List.setIfInBounds_toArray, List.set_cons_zero, List.set_cons_succ]
    refine wpAnyH_ready (rs := [3]) (by kernel_rfl) (by simp) ?rdy108
    refine AllReadyH.cons (List.getElem?_toArray.trans rfl) (fun K hK => ?stp108) AllReadyH.nil
    go_simp
    go_wp2_with fail
    (refine (W1.out _).mono ?_; rintro e w6 ⟨rfl, hb6⟩; have R6 := R5.drew.below hb6; clear R5)
    go_wp2_with fail
    refine hK.out _ _ ?hSn108 (fun hHeld2 => ?rest108)
    case hSn108 => (first | with_reducible exact S0.drew | exact hHeld.below hb6 | exact hHeld.below hb7 | exact hHeld.far ne1 ne2 _ _)
    clear hK K hHeld
    have hHeld := hHeld2
    clear hHeld2
    try simp only [Act.put, List.setIfInBounds_toArray, List.set_cons_zero, List.set_cons_succ]
    refine wpAnyH_ready (rs := [8]) (by kernel_rfl) (by simp) ?rdy109
    refine AllReadyH.cons (List.getElem?_toArray.trans rfl) (fun K hK => ?stp109) AllReadyH.nil
    go_simp
    go_wp2_with fail
    (refine (W2.out _).mono ?_; rintro e w7 ⟨rfl, hb7⟩; have R7 := R6.below hb7; clear R6; obtain ⟨Q0, Q1, Q2, Q3, Q4⟩ := R7.1.two)
    go_wp2_with fail
    refine hK.out _ _ ?hSn109 (fun hHeld2 => ?rest109)
    case hSn109 => (first | with_reducible exact S0.drew | exact hHeld.below hb6 | exact hHeld.below hb7 | exact hHeld.far ne1 ne2 _ _)
    clear hK K hHeld
    have hHeld := hHeld2
    clear hHeld2
    try simp only [Act.put, List.setIfInBounds_toArray, List.set_cons_zero, List.set_cons_succ]
    refine wpAnyH_take (i := 9) (oi := _) (v := ?v110) (List.getElem?_toArray.trans rfl) (by kernel_rfl) (by kernel_rfl) (by kernel_rfl) (fun _ _ _ h => h) (Or.inl ⟨by rfl, ?hy110⟩) (by assumption) ?rest110
    case hy110 => (intro wq hSw; (try simp only [Two, LG] at hSw); go_simp; try with_reducible rfl)
    try simp only [Act.put, List.setIfInBounds_toArray, List.set_cons_zero, List.set_cons_succ]
    refine wpAnyH_ready (rs := [10]) (by kernel_rfl) (by simp) ?rdy111
    refine AllReadyH.cons (List.getElem?_toArray.trans rfl) (fun K hK => ?stp111) AllReadyH.nil
    go_simp
    go_wp2_with fail
    skip
    go_wp2_with fail
    refine hK.out _ _ ?hSn111 (fun hHeld2 => ?rest111)
    case hSn111 => (first | with_reducible exact S0.drew | exact hHeld.below hb6 | exact hHeld.below hb7 | exact hHeld.far ne1 ne2 _ _)
    clear hK K hHeld
    have hHeld := hHeld2
    clear hHeld2
    try simp only [Act.put, List.setIfInBounds_toArray, List.set_cons_zero, List.set_cons_succ]
    refine wpAnyH_take (i := 11) (oi := _) (v := ?v112) (List.getElem?_toArray.trans rfl) (by kernel_rfl) (by kernel_rfl) (by kernel_rfl) (fun _ _ _ h => h) (Or.inl ⟨by rfl, ?hy112⟩) (by assumption) ?rest112
    case hy112 => (intro wq hSw; (try simp only [Two, LG] at hSw); go_simp; try with_reducible rfl)
    try simp only [Act.put, List.setIfInBounds_toArray, List.set_cons_zero, List.set_cons_succ]
    refine wpAnyH_done (by kernel_rfl) ?fin100 _
    have hB7 := R7.2
    go_wp2
    refine bodyPost_ret (v := .tuple #[nv sh sl, .bool true]) (by simp [results, Tryz.results31, go_sem, World.cell?_setCell_same', World.cell?_setCell_other, Q0, Q1]) rfl ⟨sh, sl, true, rfl, gx, by repeat (first | with_reducible exact Below.refl _ _ | with_reducible refine Below.drew ?_ | with_reducible refine Below.alloc ?_ (by first | omega | (simp <;> omega)) _ | with_reducible refine Below.setCell ?_ (by first | omega | (simp <;> omega)) _ | with_reducible refine Below.trans ?_ (Below.mono hB7 (by first | omega | (simp <;> omega))))⟩
  · have gx : Hid (GI 0 0 false) := by
      refine bad.out ?_
      rw [HF.out]
      rcases hg.out with ⟨n, k, hgf, _, _, hk, hck, rfl⟩ | ⟨hgf, _⟩
      · rcases hg2.out with ⟨n2, k2, hgf2, _, _, hk2, hck2, rfl⟩ | ⟨hgf2, _⟩
        · rw [hgf, hgf2]
          show (if k + k2 < 8 then _ else none) = none
          rw [if_neg (fun c => hgood ⟨rfl, rfl, by omega⟩)]
        · rw [hgf, hgf2]
      · rw [hgf]
    cases ok
    · clear hg hg2 hgood bad good HF
      go_wp2
      refine bodyPost_ret (v := .tuple #[nv 0 0, .bool false]) (by simp [results, Tryz.results31, go_sem, World.cell?_setCell_same', World.cell?_setCell_other, *]) rfl ⟨0, 0, false, rfl, gx, by repeat (first | with_reducible exact Below.refl _ _ | with_reducible refine Below.drew ?_ | with_reducible refine Below.alloc ?_ (by first | omega | (simp <;> omega)) _ | with_reducible refine Below.setCell ?_ (by first | omega | (simp <;> omega)) _ | with_reducible refine Below.trans ?_ (Below.mono hB (by first | omega | (simp <;> omega))))⟩
    · cases ok2
      · clear hg hg2 hgood bad good HF
        go_wp2
        refine bodyPost_ret (v := .tuple #[nv 0 0, .bool false]) (by simp [results, Tryz.results31, go_sem, World.cell?_setCell_same', World.cell?_setCell_other, *]) rfl ⟨0, 0, false, rfl, gx, by repeat (first | with_reducible exact Below.refl _ _ | with_reducible refine Below.drew ?_ | with_reducible refine Below.alloc ?_ (by first | omega | (simp <;> omega)) _ | with_reducible refine Below.setCell ?_ (by first | omega | (simp <;> omega)) _ | with_reducible refine Below.trans ?_ (Below.mono hB (by first | omega | (simp <;> omega))))⟩
      · have hm : 8 - c - c2 < 1 := by
          have : ¬ c + c2 < 8 := fun h => hgood ⟨rfl, rfl, h⟩
          omega
        clear hg hg2 hgood bad good HF
        go_wp2
        refine bodyPost_ret (v := .tuple #[nv 0 0, .bool false]) (by simp [results, Tryz.results31, go_sem, World.cell?_setCell_same', World.cell?_setCell_other, *]) rfl ⟨0, 0, false, rfl, gx, by repeat (first | with_reducible exact Below.refl _ _ | with_reducible refine Below.drew ?_ | with_reducible refine Below.alloc ?_ (by first | omega | (simp <;> omega)) _ | with_reducible refine Below.setCell ?_ (by first | omega | (simp <;> omega)) _ | with_reducible refine Below.trans ?_ (Below.mono hB (by first | omega | (simp <;> omega))))⟩
end Go.Proofs.YtipjmmhlfmahbaaGreatDoor

namespace Go.Proofs.YtipjmmhlfmahbaaGreatDoor
open Go.ChangeShapes Go.WideShapes Go.ChangeAt Go.RowKit
set_option linter.unusedVariables false
set_option linter.unusedSimpArgs false

/-- Is there a colon in it? -/
def colonF (l : List UInt8) : Bool := decide (0 ≤ Lib.indexByte l 58)

/-- The address of a text: whether it is a long one, and its number. -/
def parseF (l : List UInt8) : Option (Bool × Nat) := if colonF l = true then (longF l).map (fun n => (true, n)) else (shortF 3 0 l).map (fun n => (false, n))

/-- What Parse answers. -/
def ParseIs (s : List UInt8) (v : Bool) (h l c : Int) : Prop := (∃ n, parseF s = some (v, n) ∧ IsNum h l n ∧ c = 0) ∨ (parseF s = none ∧ v = false ∧ h = 0 ∧ l = 0 ∧ c = 4)

theorem ParseIs.uniq {s : List UInt8} {v v' : Bool} {h l c h' l' c' : Int} (a : ParseIs s v h l c) (b : ParseIs s v' h' l' c') : v = v' ∧ h = h' ∧ l = l' ∧ c = c' := by
  rcases a with ⟨n, h1, h2, h3⟩ | ⟨h1, h2, h3, h4, h5⟩ <;> rcases b with ⟨m, k1, k2, k3⟩ | ⟨k1, k2, k3, k4, k5⟩
  · rw [h1] at k1
    obtain ⟨rfl, rfl⟩ := Prod.mk.inj (Option.some.inj k1)
    obtain ⟨rfl, rfl⟩ := h2.uniq k2
    exact ⟨rfl, rfl, rfl, by omega⟩
  · rw [h1] at k1; cases k1
  · rw [h1] at k1; cases k1
  · exact ⟨by rw [h2, k2], by omega, by omega, by omega⟩

set_option maxRecDepth 100000 in
set_option maxHeartbeats 1600000 in
theorem aparse_L (S : ByteArray) (hS : S.size ≤ 1000000) (hc : decide (0 ≤ Lib.indexByte S.data.toList 58) = true) (w : World) (hL : LW w)
    (RD : ∀ w, LW w → Calls Tryz.prog 31 #[.string S] w fun e w' => ∃ (h l : Int) (ok : Bool), e = .returned (.tuple #[nv h l, .bool ok]) ∧ Hid (LongIs S.data.toList h l ok) ∧ Below w.heap.size w w')
    (KK : ∀ h l ok, LongIs S.data.toList h l ok → (ok = true ∧ ParseIs S.data.toList true h l 0) ∨ (ok = false ∧ ParseIs S.data.toList false 0 0 4)) :
    Calls Tryz.prog 12 #[.string S] w fun e w' => ∃ (v : Bool) (h l c : Int), e = .returned (.tuple #[av v h l, .int .i64 c]) ∧ Hid (ParseIs S.data.toList v h l c) ∧ Below w.heap.size w w' := by
  have hz := hL.sz
  have Lx : ∀ W, Below w.heap.size w W → LW W := fun W hb => hL.of hb hz
  have CN := fun w' => Tryz.strings_Contains_one S 58 w'
  rw [hc] at CN
  obtain ⟨PI, hPI⟩ : ∃ PI, ParseIs S.data.toList = PI := ⟨_, rfl⟩
  rw [hPI] at KK ⊢
  have KH : Hid _ := KK
  have R0 : Blk ((w.alloc (.cells #[.bool false, .int .u64 0, .int .u64 0] 26)).alloc (.cells #[.int .u64 0, .int .u64 0] 24)) w.heap.size #[.bool false, .int .u64 0, .int .u64 0] 26 := (Blk.new _ _ _).alloc _
  have N0 : Blk ((w.alloc (.cells #[.bool false, .int .u64 0, .int .u64 0] 26)).alloc (.cells #[.int .u64 0, .int .u64 0] 24)) (w.heap.size + 1) #[.int .u64 0, .int .u64 0] 24 := by
    simpa using Blk.new (w.alloc (.cells #[.bool false, .int .u64 0, .int .u64 0] 26)) #[.int .u64 0, .int .u64 0] 24
  have B0 : Below w.heap.size w ((w.alloc (.cells #[.bool false, .int .u64 0, .int .u64 0] 26)).alloc (.cells #[.int .u64 0, .int .u64 0] 24)) := by repeat (first | with_reducible exact Below.refl _ _ | with_reducible refine Below.drew ?_ | with_reducible refine Below.alloc ?_ (by first | omega | (simp <;> omega)) _ | with_reducible refine Below.setCell ?_ (by first | omega | (simp <;> omega)) _)
  clear hc hPI KK hL
  go_enter Tryz.func12, Tryz.ntmps12
  go_wp2_with fail
  refine (CN _).mono ?_
  rintro e w0 ⟨rfl, rfl⟩
  clear CN
  go_wp2_with fail
  refine (RD _ (Lx _ B0)).mono ?_
  rintro e w1 ⟨h, l, ok, rfl, hg, hb1⟩
  have R1 := R0.below hb1
  have N1 := N0.below hb1
  have B1 : Below w.heap.size w w1 := B0.trans (hb1.mono B0.size)
  clear RD Lx R0 N0 B0 hb1
  obtain ⟨O0, O1, O2, O3, O4, O5, O6⟩ := R1.three
  obtain ⟨M0, M1, M2, M3, M4⟩ := N1.two
  rcases KH.out h l ok hg.out with ⟨rfl, hp⟩ | ⟨rfl, hp⟩
  · have gx : Hid (PI true h l 0) := hp
    clear hp hg KH R1 N1
    go_wp2
    refine bodyPost_ret (v := .tuple #[av true h l, .int .i64 0]) (by simp [results, Tryz.results12, go_sem, World.cell?_setCell_same', World.cell?_setCell_other, *]) rfl ⟨true, h, l, 0, rfl, gx, by repeat (first | with_reducible exact Below.refl _ _ | with_reducible refine Below.drew ?_ | with_reducible refine Below.alloc ?_ (by first | omega | (simp <;> omega)) _ | with_reducible refine Below.setCell ?_ (by first | omega | (simp <;> omega)) _ | with_reducible refine Below.trans ?_ (Below.mono B1 (by first | omega | (simp <;> omega))))⟩
  · have gx : Hid (PI false 0 0 4) := hp
    clear hp hg KH R1 N1
    go_wp2
    refine bodyPost_ret (v := .tuple #[av false 0 0, .int .i64 4]) (by simp [results, Tryz.results12, go_sem, World.cell?_setCell_same', World.cell?_setCell_other, *]) rfl ⟨false, 0, 0, 4, rfl, gx, by repeat (first | with_reducible exact Below.refl _ _ | with_reducible refine Below.drew ?_ | with_reducible refine Below.alloc ?_ (by first | omega | (simp <;> omega)) _ | with_reducible refine Below.setCell ?_ (by first | omega | (simp <;> omega)) _ | with_reducible refine Below.trans ?_ (Below.mono B1 (by first | omega | (simp <;> omega))))⟩

set_option maxRecDepth 100000 in
set_option maxHeartbeats 1600000 in
theorem aparse_S (S : ByteArray) (hS : S.size ≤ 1000000) (hc : decide (0 ≤ Lib.indexByte S.data.toList 58) = false) (w : World) (hL : LW w)
    (RD : ∀ w, LW w → Calls Tryz.prog 32 #[.string S] w fun e w' => ∃ (h l : Int) (ok : Bool), e = .returned (.tuple #[nv h l, .bool ok]) ∧ Hid (ShortIs S.data.toList h l ok) ∧ Below w.heap.size w w')
    (KK : ∀ h l ok, ShortIs S.data.toList h l ok → (ok = true ∧ ParseIs S.data.toList false h l 0) ∨ (ok = false ∧ ParseIs S.data.toList false 0 0 4)) :
    Calls Tryz.prog 12 #[.string S] w fun e w' => ∃ (v : Bool) (h l c : Int), e = .returned (.tuple #[av v h l, .int .i64 c]) ∧ Hid (ParseIs S.data.toList v h l c) ∧ Below w.heap.size w w' := by
  have hz := hL.sz
  have Lx : ∀ W, Below w.heap.size w W → LW W := fun W hb => hL.of hb hz
  have CN := fun w' => Tryz.strings_Contains_one S 58 w'
  rw [hc] at CN
  obtain ⟨PI, hPI⟩ : ∃ PI, ParseIs S.data.toList = PI := ⟨_, rfl⟩
  rw [hPI] at KK ⊢
  have KH : Hid _ := KK
  have R0 : Blk ((w.alloc (.cells #[.bool false, .int .u64 0, .int .u64 0] 26)).alloc (.cells #[.int .u64 0, .int .u64 0] 24)) w.heap.size #[.bool false, .int .u64 0, .int .u64 0] 26 := (Blk.new _ _ _).alloc _
  have N0 : Blk ((w.alloc (.cells #[.bool false, .int .u64 0, .int .u64 0] 26)).alloc (.cells #[.int .u64 0, .int .u64 0] 24)) (w.heap.size + 1) #[.int .u64 0, .int .u64 0] 24 := by
    simpa using Blk.new (w.alloc (.cells #[.bool false, .int .u64 0, .int .u64 0] 26)) #[.int .u64 0, .int .u64 0] 24
  have B0 : Below w.heap.size w ((w.alloc (.cells #[.bool false, .int .u64 0, .int .u64 0] 26)).alloc (.cells #[.int .u64 0, .int .u64 0] 24)) := by repeat (first | with_reducible exact Below.refl _ _ | with_reducible refine Below.drew ?_ | with_reducible refine Below.alloc ?_ (by first | omega | (simp <;> omega)) _ | with_reducible refine Below.setCell ?_ (by first | omega | (simp <;> omega)) _)
  clear hc hPI KK hL
  go_enter Tryz.func12, Tryz.ntmps12
  go_wp2_with fail
  refine (CN _).mono ?_
  rintro e w0 ⟨rfl, rfl⟩
  clear CN
  go_wp2_with fail
  refine (RD _ (Lx _ B0)).mono ?_
  rintro e w1 ⟨h, l, ok, rfl, hg, hb1⟩
  have R1 := R0.below hb1
  have N1 := N0.below hb1
  have B1 : Below w.heap.size w w1 := B0.trans (hb1.mono B0.size)
  clear RD Lx R0 N0 B0 hb1
  obtain ⟨O0, O1, O2, O3, O4, O5, O6⟩ := R1.three
  obtain ⟨M0, M1, M2, M3, M4⟩ := N1.two
  rcases KH.out h l ok hg.out with ⟨rfl, hp⟩ | ⟨rfl, hp⟩
  · have gx : Hid (PI false h l 0) := hp
    clear hp hg KH R1 N1
    go_wp2
    refine bodyPost_ret (v := .tuple #[av false h l, .int .i64 0]) (by simp [results, Tryz.results12, go_sem, World.cell?_setCell_same', World.cell?_setCell_other, *]) rfl ⟨false, h, l, 0, rfl, gx, by repeat (first | with_reducible exact Below.refl _ _ | with_reducible refine Below.drew ?_ | with_reducible refine Below.alloc ?_ (by first | omega | (simp <;> omega)) _ | with_reducible refine Below.setCell ?_ (by first | omega | (simp <;> omega)) _ | with_reducible refine Below.trans ?_ (Below.mono B1 (by first | omega | (simp <;> omega))))⟩
  · have gx : Hid (PI false 0 0 4) := hp
    clear hp hg KH R1 N1
    go_wp2
    refine bodyPost_ret (v := .tuple #[av false 0 0, .int .i64 4]) (by simp [results, Tryz.results12, go_sem, World.cell?_setCell_same', World.cell?_setCell_other, *]) rfl ⟨false, 0, 0, 4, rfl, gx, by repeat (first | with_reducible exact Below.refl _ _ | with_reducible refine Below.drew ?_ | with_reducible refine Below.alloc ?_ (by first | omega | (simp <;> omega)) _ | with_reducible refine Below.setCell ?_ (by first | omega | (simp <;> omega)) _ | with_reducible refine Below.trans ?_ (Below.mono B1 (by first | omega | (simp <;> omega))))⟩

/-- Parse: the address that a text is read as. -/
theorem aparse_c (S : ByteArray) (hS : S.size ≤ 1000000) (w : World) (hL : LW w) :
    Calls Tryz.prog 12 #[.string S] w fun e w' => ∃ (v : Bool) (h l c : Int), e = .returned (.tuple #[av v h l, .int .i64 c]) ∧ Hid (ParseIs S.data.toList v h l c) ∧ Below w.heap.size w w' := by
  cases hc : colonF S.data.toList
  · refine aparse_S S hS hc w hL (fun w h => readShort_w S hS w h) (fun h l ok hi => ?_)
    have e : parseF S.data.toList = (shortF 3 0 S.data.toList).map (fun n => (false, n)) := by unfold parseF; rw [if_neg (by rw [hc]; simp)]
    rcases hi with ⟨n, h1, h2, h3, rfl⟩ | ⟨h1, rfl, rfl, rfl⟩
    · exact Or.inl ⟨rfl, Or.inl ⟨n, by rw [e, h1]; rfl, h3, rfl⟩⟩
    · exact Or.inr ⟨rfl, Or.inr ⟨by rw [e, h1]; rfl, rfl, rfl, rfl, rfl⟩⟩
  · refine aparse_L S hS hc w hL (fun w h => ?_) (fun h l ok hi => ?_)
    · cases hcut : (cutG [58, 58] S.data.toList).2.2
      · exact readLong_one S hS hcut w h
      · exact readLong_two S hS hcut w h
    · have e : parseF S.data.toList = (longF S.data.toList).map (fun n => (true, n)) := by unfold parseF; rw [if_pos hc]
      rcases hi with ⟨n, h1, h3, rfl⟩ | ⟨h1, rfl, rfl, rfl⟩
      · exact Or.inl ⟨rfl, Or.inl ⟨n, by rw [e, h1]; rfl, h3, rfl⟩⟩
      · exact Or.inr ⟨rfl, Or.inr ⟨by rw [e, h1]; rfl, rfl, rfl, rfl, rfl⟩⟩

end Go.Proofs.YtipjmmhlfmahbaaGreatDoor
