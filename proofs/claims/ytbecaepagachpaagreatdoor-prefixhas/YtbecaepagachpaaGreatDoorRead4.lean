/-
  What readLong and Parse of package addr return, for every text of up to 1000 bytes.
-/
import Derived.Test.YtbecaepagachpaaGreatDoorRead3
namespace Go.Proofs.YtbecaepagachpaaGreatDoor
open Go.ChangeShapes Go.WideShapes Go.ChangeAt Go.RowKit
set_option linter.unusedVariables false
set_option linter.unusedSimpArgs false

/-- The number of a long address's text. -/
def longF (l : List UInt8) : Option Nat :=
  if (cutG [58, 58] l).2.2 = true then match groupsF false (cutG [58, 58] l).1, groupsF true (cutG [58, 58] l).2.1 with
    | some (a, i), some (b, j) => if i + j < 8 then some (a * 2 ^ (16 * (8 - i)) + b) else none
    | _, _ => none
  else match groupsF true l with
    | some (a, i) => if i = 8 then some a else none
    | none => none

/-- What readLong answers. -/
def LongIs (s : List UInt8) (h l : Int) (ok : Bool) : Prop := (∃ n, longF s = some n ∧ IsNum h l n ∧ ok = true) ∨ (longF s = none ∧ h = 0 ∧ l = 0 ∧ ok = false)

theorem long_math {a b i j : Nat} (ha : a < 2 ^ (16 * i)) (hb : b < 2 ^ (16 * j)) (hij : i + j < 8) :
    (((a * 2 ^ (16 * (8 - i - j)) % 340282366920938463463374607431768211456) ||| 0) * 2 ^ (16 * j) % 340282366920938463463374607431768211456) ||| b = a * 2 ^ (16 * (8 - i)) + b := by
  have h1 := two16 (n := a) (k := i) (v := 0) (s := 8 - i - j) ha (by omega) (Nat.pow_pos (by decide))
  have h2 := two16 (n := a * 2 ^ (16 * (8 - i - j)) + 0) (k := i + (8 - i - j)) (v := b) (s := j) h1.2 (by omega) hb
  rw [h1.1, h2.1, Nat.add_zero, Nat.mul_assoc, ← Nat.pow_add, ← Nat.mul_add, show 8 - i - j + j = 8 - i by omega]

/-- Two blocks of groups that are read. -/
def LG (B1 B2 : Nat) (a1 a2 a3 b1 b2 b3 : Value) (wx : World) : Prop :=
  (wx.cell? ⟨B1, 0, none⟩ = some a1 ∧ wx.cell? ⟨B1, 1, none⟩ = some a2 ∧ wx.cell? ⟨B1, 2, none⟩ = some a3) ∧ (wx.cell? ⟨B2, 0, none⟩ = some b1 ∧ wx.cell? ⟨B2, 1, none⟩ = some b2 ∧ wx.cell? ⟨B2, 2, none⟩ = some b3) ∧
  Blk wx B1 #[a1, a2, a3] 92 ∧ Blk wx B2 #[b1, b2, b3] 92

theorem LG.of {B1 B2 : Nat} {a1 a2 a3 b1 b2 b3 : Value} {wx : World} (a : Blk wx B1 #[a1, a2, a3] 92) (b : Blk wx B2 #[b1, b2, b3] 92) : LG B1 B2 a1 a2 a3 b1 b2 b3 wx :=
  ⟨⟨a.cell 0, a.cell 1, a.cell 2⟩, ⟨b.cell 0, b.cell 1, b.cell 2⟩, a, b⟩

theorem LG.drew {B1 B2 : Nat} {a1 a2 a3 b1 b2 b3 : Value} {wx : World} (s : LG B1 B2 a1 a2 a3 b1 b2 b3 wx) : LG B1 B2 a1 a2 a3 b1 b2 b3 wx.drew := s

theorem LG.below {B1 B2 : Nat} {a1 a2 a3 b1 b2 b3 : Value} {wx w1 : World} (s : LG B1 B2 a1 a2 a3 b1 b2 b3 wx) (hb : Below wx.heap.size wx w1) : LG B1 B2 a1 a2 a3 b1 b2 b3 w1 := LG.of (s.2.2.1.below hb) (s.2.2.2.below hb)

theorem LG.far {B1 B2 B : Nat} {a1 a2 a3 b1 b2 b3 : Value} {wx : World} (s : LG B1 B2 a1 a2 a3 b1 b2 b3 wx) (h1 : B1 ≠ B) (h2 : B2 ≠ B) (x y : Value) : LG B1 B2 a1 a2 a3 b1 b2 b3 ((wx.setCell ⟨B, 0, none⟩ x).setCell ⟨B, 1, none⟩ y) :=
  LG.of (s.2.2.1.far2 h1 _ _) (s.2.2.2.far2 h2 _ _)

/-- What readLong keeps of its result. -/
def RB (w : World) (wr : World) : Prop := Blk wr w.heap.size #[.int .u64 0, .int .u64 0] 24 ∧ Below w.heap.size w wr

theorem RB.below {w W w1 : World} (s : RB w W) (hb : Below W.heap.size W w1) : RB w w1 := ⟨s.1.below hb, s.2.trans (hb.mono s.2.size)⟩

theorem RB.alloc {w W : World} (s : RB w W) (o : Obj) : RB w (W.alloc o) := ⟨s.1.alloc o, s.2.alloc (Nat.le_of_lt s.1.lt) o⟩

theorem RB.drew {w W : World} (s : RB w W) : RB w W.drew := ⟨s.1, s.2.drew⟩

set_option maxRecDepth 100000 in
set_option maxHeartbeats 3200000 in
theorem readLong_one (S : ByteArray) (hS : S.size ≤ 1000) (hcut : (cutG [58, 58] S.data.toList).2.2 = false) (w : World) (hL : LW w) :
    Calls Tryz.prog 63 #[.string S] w fun e w' => ∃ (h l : Int) (ok : Bool), e = .returned (.tuple #[nv h l, .bool ok]) ∧ Hid (LongIs S.data.toList h l ok) ∧ Below w.heap.size w w' := by
  have hz := hL.sz
  have Lx : ∀ W, Below w.heap.size w W → LW W := fun W hb => hL.of hb hz
  have R0 : RB w (w.alloc (.cells #[.int .u64 0, .int .u64 0] 24)) := ⟨Blk.new _ _ _, by repeat (first | with_reducible exact Below.refl _ _ | with_reducible refine Below.drew ?_ | with_reducible refine Below.alloc ?_ (by first | omega | (simp <;> omega)) _ | with_reducible refine Below.setCell ?_ (by first | omega | (simp <;> omega)) _)⟩
  have CC := cut_c S ⟨#[58, 58]⟩ (by simp) hS _ (Lx _ R0.2)
  simp only [] at CC
  rw [hcut] at CC
  have hF : longF S.data.toList = match groupsF true S.data.toList with
    | some (a, i) => if i = 8 then some a else none
    | none => none := by unfold longF; rw [if_neg (by rw [hcut]; simp)]
  obtain ⟨X, hX⟩ : ∃ X : ByteArray, X = ⟨(cutG [58, 58] S.data.toList).1.toArray⟩ := ⟨_, rfl⟩
  obtain ⟨Y, hY⟩ : ∃ Y : ByteArray, Y = ⟨(cutG [58, 58] S.data.toList).2.1.toArray⟩ := ⟨_, rfl⟩
  rw [← hX, ← hY] at CC
  clear hX hY hcut hL
  have HF : Hid _ := hF
  clear hF
  obtain ⟨GI, hGI⟩ : ∃ GI, LongIs S.data.toList = GI := ⟨_, rfl⟩
  have bad : Hid (longF S.data.toList = none → GI 0 0 false) := fun h => by rw [← hGI]; exact Or.inr ⟨h, rfl, rfl, rfl⟩
  have good : Hid (∀ (h l : Int) (n : Nat), longF S.data.toList = some n → IsNum h l n → GI h l true) := fun h l n h1 h3 => by rw [← hGI]; exact Or.inl ⟨n, h1, h3, rfl⟩
  rw [hGI]
  clear hGI
  go_enter Tryz.func63, Tryz.ntmps63
  go_wp2_with fail
  refine CC.mono ?_
  rintro e w1 ⟨rfl, hb1⟩
  have R1 := R0.below hb1
  clear CC R0 hb1
  go_wp2_with fail
  refine (readGroups_w true S hS _ (Lx _ R1.2)).mono ?_
  rintro e w2 ⟨h, l, c, ok, rfl, hg, hb2⟩
  have R2 := R1.below hb2
  clear R1 hb2 Lx
  obtain ⟨O0, O1, O2, O3, O4⟩ := R2.1.two
  have hB := R2.2
  rcases hg.out with ⟨n, k, hgf, hn, hn16, hk, hck, rfl⟩ | ⟨hgf, rfl, rfl, rfl, rfl⟩
  · by_cases h8 : k = 8
    · have gx : Hid (GI h l true) := good.out h l n (by rw [HF.out, hgf]; simp [h8]) hn
      have c8 : (c == 8) = true := by rw [beq_iff_eq]; omega
      have c8' : (c != 8) = false := by simp [bne, c8]
      clear hg hgf hn hn16 hk hck h8 bad good HF
      go_wp2
      refine bodyPost_ret (v := .tuple #[nv h l, .bool true]) (by simp [results, Tryz.results63, go_sem, World.cell?_setCell_same', World.cell?_setCell_other, *]) rfl ⟨h, l, true, rfl, gx, by repeat (first | with_reducible exact Below.refl _ _ | with_reducible refine Below.drew ?_ | with_reducible refine Below.alloc ?_ (by first | omega | (simp <;> omega)) _ | with_reducible refine Below.setCell ?_ (by first | omega | (simp <;> omega)) _ | with_reducible refine Below.trans ?_ (Below.mono hB (by first | omega | (simp <;> omega))))⟩
    · have gx : Hid (GI 0 0 false) := bad.out (by rw [HF.out, hgf]; simp [h8])
      have c8 : (c == 8) = false := by rw [beq_eq_false_iff_ne]; omega
      have c8' : (c != 8) = true := by simp [bne, c8]
      clear hg hgf hn hn16 hk hck h8 bad good HF
      go_wp2
      refine bodyPost_ret (v := .tuple #[nv 0 0, .bool false]) (by simp [results, Tryz.results63, go_sem, World.cell?_setCell_same', World.cell?_setCell_other, *]) rfl ⟨0, 0, false, rfl, gx, by repeat (first | with_reducible exact Below.refl _ _ | with_reducible refine Below.drew ?_ | with_reducible refine Below.alloc ?_ (by first | omega | (simp <;> omega)) _ | with_reducible refine Below.setCell ?_ (by first | omega | (simp <;> omega)) _ | with_reducible refine Below.trans ?_ (Below.mono hB (by first | omega | (simp <;> omega))))⟩
  · have gx : Hid (GI 0 0 false) := bad.out (by rw [HF.out, hgf])
    clear hg hgf bad good HF
    go_wp2
    refine bodyPost_ret (v := .tuple #[nv 0 0, .bool false]) (by simp [results, Tryz.results63, go_sem, World.cell?_setCell_same', World.cell?_setCell_other, *]) rfl ⟨0, 0, false, rfl, gx, by repeat (first | with_reducible exact Below.refl _ _ | with_reducible refine Below.drew ?_ | with_reducible refine Below.alloc ?_ (by first | omega | (simp <;> omega)) _ | with_reducible refine Below.setCell ?_ (by first | omega | (simp <;> omega)) _ | with_reducible refine Below.trans ?_ (Below.mono hB (by first | omega | (simp <;> omega))))⟩
end Go.Proofs.YtbecaepagachpaaGreatDoor
