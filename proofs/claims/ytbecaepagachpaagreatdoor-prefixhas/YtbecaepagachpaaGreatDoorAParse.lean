/-
  What Parse of package addr returns, for every text of up to 1000 bytes; the law's own examples.
-/
import Derived.Test.YtbecaepagachpaaGreatDoorRead5
import Derived.Test.YtbecaepagachpaaGreatDoorAddrT
namespace Go.Proofs.YtbecaepagachpaaGreatDoor
open Go.ChangeShapes Go.WideShapes Go.ChangeAt Go.RowKit
set_option linter.unusedVariables false
set_option linter.unusedSimpArgs false

/-- Is there a colon in it? -/
def colonF (l : List UInt8) : Bool := decide (0 ≤ Lib.indexByte l 58)

/-- The address of a text: whether it is a long one, and its number. -/
def parseF (l : List UInt8) : Option (Bool × Nat) := if colonF l = true then (longF l).map (fun n => (true, n)) else (shortF 3 0 l).map (fun n => (false, n))

/-- What Parse answers. -/
def ParseIs (s : List UInt8) (v : Bool) (h l c : Int) : Prop := (∃ n, parseF s = some (v, n) ∧ IsNum h l n ∧ c = 0) ∨ (parseF s = none ∧ v = false ∧ h = 0 ∧ l = 0 ∧ c = 4)

theorem ParseIs.uniq {s : List UInt8} {v v' : Bool} {h l c h' l' c' : Int} (a : ParseIs s v h l c) (b : ParseIs s v' h' l' c') : v = v' ∧ h = h' ∧ l = l' ∧ c = c' := by
  rcases a with ⟨n, h1, h2, h3⟩ | ⟨h1, h2, h3, h4, h5⟩ <;> rcases b with ⟨m, k1, k2, k3⟩ | ⟨k1, k2, k3, k4, k5⟩
  · rw [h1] at k1
    obtain ⟨rfl, rfl⟩ := Prod.mk.inj (Option.some.inj k1)
    obtain ⟨rfl, rfl⟩ := h2.uniq k2
    exact ⟨rfl, rfl, rfl, by omega⟩
  · rw [h1] at k1; cases k1
  · rw [h1] at k1; cases k1
  · exact ⟨by rw [h2, k2], by omega, by omega, by omega⟩

set_option maxRecDepth 100000 in
set_option maxHeartbeats 1600000 in
theorem aparse_L (S : ByteArray) (hS : S.size ≤ 1000) (hc : decide (0 ≤ Lib.indexByte S.data.toList 58) = true) (w : World) (hL : LW w)
    (RD : ∀ w, LW w → Calls Tryz.prog 63 #[.string S] w fun e w' => ∃ (h l : Int) (ok : Bool), e = .returned (.tuple #[nv h l, .bool ok]) ∧ Hid (LongIs S.data.toList h l ok) ∧ Below w.heap.size w w')
    (KK : ∀ h l ok, LongIs S.data.toList h l ok → (ok = true ∧ ParseIs S.data.toList true h l 0) ∨ (ok = false ∧ ParseIs S.data.toList false 0 0 4)) :
    Calls Tryz.prog 47 #[.string S] w fun e w' => ∃ (v : Bool) (h l c : Int), e = .returned (.tuple #[av v h l, .int .i64 c]) ∧ Hid (ParseIs S.data.toList v h l c) ∧ Below w.heap.size w w' := by
  have hz := hL.sz
  have Lx : ∀ W, Below w.heap.size w W → LW W := fun W hb => hL.of hb hz
  have CN := fun w' => Tryz.strings_Contains_one S 58 w'
  rw [hc] at CN
  obtain ⟨PI, hPI⟩ : ∃ PI, ParseIs S.data.toList = PI := ⟨_, rfl⟩
  rw [hPI] at KK ⊢
  have KH : Hid _ := KK
  have R0 : Blk ((w.alloc (.cells #[.bool false, .int .u64 0, .int .u64 0] 26)).alloc (.cells #[.int .u64 0, .int .u64 0] 24)) w.heap.size #[.bool false, .int .u64 0, .int .u64 0] 26 := (Blk.new _ _ _).alloc _
  have N0 : Blk ((w.alloc (.cells #[.bool false, .int .u64 0, .int .u64 0] 26)).alloc (.cells #[.int .u64 0, .int .u64 0] 24)) (w.heap.size + 1) #[.int .u64 0, .int .u64 0] 24 := by
    simpa using Blk.new (w.alloc (.cells #[.bool false, .int .u64 0, .int .u64 0] 26)) #[.int .u64 0, .int .u64 0] 24
  have B0 : Below w.heap.size w ((w.alloc (.cells #[.bool false, .int .u64 0, .int .u64 0] 26)).alloc (.cells #[.int .u64 0, .int .u64 0] 24)) := by repeat (first | with_reducible exact Below.refl _ _ | with_reducible refine Below.drew ?_ | with_reducible refine Below.alloc ?_ (by first | omega | (simp <;> omega)) _ | with_reducible refine Below.setCell ?_ (by first | omega | (simp <;> omega)) _)
  clear hc hPI KK hL
  go_enter Tryz.func47, Tryz.ntmps47
  go_wp2_with fail
  refine (CN _).mono ?_
  rintro e w0 ⟨rfl, rfl⟩
  clear CN
  go_wp2_with fail
  refine (RD _ (Lx _ B0)).mono ?_
  rintro e w1 ⟨h, l, ok, rfl, hg, hb1⟩
  have R1 := R0.below hb1
  have N1 := N0.below hb1
  have B1 : Below w.heap.size w w1 := B0.trans (hb1.mono B0.size)
  clear RD Lx R0 N0 B0 hb1
  obtain ⟨O0, O1, O2, O3, O4, O5, O6⟩ := R1.three
  obtain ⟨M0, M1, M2, M3, M4⟩ := N1.two
  rcases KH.out h l ok hg.out with ⟨rfl, hp⟩ | ⟨rfl, hp⟩
  · have gx : Hid (PI true h l 0) := hp
    clear hp hg KH R1 N1
    go_wp2
    refine bodyPost_ret (v := .tuple #[av true h l, .int .i64 0]) (by simp [results, Tryz.results47, go_sem, World.cell?_setCell_same', World.cell?_setCell_other, *]) rfl ⟨true, h, l, 0, rfl, gx, by repeat (first | with_reducible exact Below.refl _ _ | with_reducible refine Below.drew ?_ | with_reducible refine Below.alloc ?_ (by first | omega | (simp <;> omega)) _ | with_reducible refine Below.setCell ?_ (by first | omega | (simp <;> omega)) _ | with_reducible refine Below.trans ?_ (Below.mono B1 (by first | omega | (simp <;> omega))))⟩
  · have gx : Hid (PI false 0 0 4) := hp
    clear hp hg KH R1 N1
    go_wp2
    refine bodyPost_ret (v := .tuple #[av false 0 0, .int .i64 4]) (by simp [results, Tryz.results47, go_sem, World.cell?_setCell_same', World.cell?_setCell_other, *]) rfl ⟨false, 0, 0, 4, rfl, gx, by repeat (first | with_reducible exact Below.refl _ _ | with_reducible refine Below.drew ?_ | with_reducible refine Below.alloc ?_ (by first | omega | (simp <;> omega)) _ | with_reducible refine Below.setCell ?_ (by first | omega | (simp <;> omega)) _ | with_reducible refine Below.trans ?_ (Below.mono B1 (by first | omega | (simp <;> omega))))⟩

set_option maxRecDepth 100000 in
set_option maxHeartbeats 1600000 in
theorem aparse_S (S : ByteArray) (hS : S.size ≤ 1000) (hc : decide (0 ≤ Lib.indexByte S.data.toList 58) = false) (w : World) (hL : LW w)
    (RD : ∀ w, LW w → Calls Tryz.prog 64 #[.string S] w fun e w' => ∃ (h l : Int) (ok : Bool), e = .returned (.tuple #[nv h l, .bool ok]) ∧ Hid (ShortIs S.data.toList h l ok) ∧ Below w.heap.size w w')
    (KK : ∀ h l ok, ShortIs S.data.toList h l ok → (ok = true ∧ ParseIs S.data.toList false h l 0) ∨ (ok = false ∧ ParseIs S.data.toList false 0 0 4)) :
    Calls Tryz.prog 47 #[.string S] w fun e w' => ∃ (v : Bool) (h l c : Int), e = .returned (.tuple #[av v h l, .int .i64 c]) ∧ Hid (ParseIs S.data.toList v h l c) ∧ Below w.heap.size w w' := by
  have hz := hL.sz
  have Lx : ∀ W, Below w.heap.size w W → LW W := fun W hb => hL.of hb hz
  have CN := fun w' => Tryz.strings_Contains_one S 58 w'
  rw [hc] at CN
  obtain ⟨PI, hPI⟩ : ∃ PI, ParseIs S.data.toList = PI := ⟨_, rfl⟩
  rw [hPI] at KK ⊢
  have KH : Hid _ := KK
  have R0 : Blk ((w.alloc (.cells #[.bool false, .int .u64 0, .int .u64 0] 26)).alloc (.cells #[.int .u64 0, .int .u64 0] 24)) w.heap.size #[.bool false, .int .u64 0, .int .u64 0] 26 := (Blk.new _ _ _).alloc _
  have N0 : Blk ((w.alloc (.cells #[.bool false, .int .u64 0, .int .u64 0] 26)).alloc (.cells #[.int .u64 0, .int .u64 0] 24)) (w.heap.size + 1) #[.int .u64 0, .int .u64 0] 24 := by
    simpa using Blk.new (w.alloc (.cells #[.bool false, .int .u64 0, .int .u64 0] 26)) #[.int .u64 0, .int .u64 0] 24
  have B0 : Below w.heap.size w ((w.alloc (.cells #[.bool false, .int .u64 0, .int .u64 0] 26)).alloc (.cells #[.int .u64 0, .int .u64 0] 24)) := by repeat (first | with_reducible exact Below.refl _ _ | with_reducible refine Below.drew ?_ | with_reducible refine Below.alloc ?_ (by first | omega | (simp <;> omega)) _ | with_reducible refine Below.setCell ?_ (by first | omega | (simp <;> omega)) _)
  clear hc hPI KK hL
  go_enter Tryz.func47, Tryz.ntmps47
  go_wp2_with fail
  refine (CN _).mono ?_
  rintro e w0 ⟨rfl, rfl⟩
  clear CN
  go_wp2_with fail
  refine (RD _ (Lx _ B0)).mono ?_
  rintro e w1 ⟨h, l, ok, rfl, hg, hb1⟩
  have R1 := R0.below hb1
  have N1 := N0.below hb1
  have B1 : Below w.heap.size w w1 := B0.trans (hb1.mono B0.size)
  clear RD Lx R0 N0 B0 hb1
  obtain ⟨O0, O1, O2, O3, O4, O5, O6⟩ := R1.three
  obtain ⟨M0, M1, M2, M3, M4⟩ := N1.two
  rcases KH.out h l ok hg.out with ⟨rfl, hp⟩ | ⟨rfl, hp⟩
  · have gx : Hid (PI false h l 0) := hp
    clear hp hg KH R1 N1
    go_wp2
    refine bodyPost_ret (v := .tuple #[av false h l, .int .i64 0]) (by simp [results, Tryz.results47, go_sem, World.cell?_setCell_same', World.cell?_setCell_other, *]) rfl ⟨false, h, l, 0, rfl, gx, by repeat (first | with_reducible exact Below.refl _ _ | with_reducible refine Below.drew ?_ | with_reducible refine Below.alloc ?_ (by first | omega | (simp <;> omega)) _ | with_reducible refine Below.setCell ?_ (by first | omega | (simp <;> omega)) _ | with_reducible refine Below.trans ?_ (Below.mono B1 (by first | omega | (simp <;> omega))))⟩
  · have gx : Hid (PI false 0 0 4) := hp
    clear hp hg KH R1 N1
    go_wp2
    refine bodyPost_ret (v := .tuple #[av false 0 0, .int .i64 4]) (by simp [results, Tryz.results47, go_sem, World.cell?_setCell_same', World.cell?_setCell_other, *]) rfl ⟨false, 0, 0, 4, rfl, gx, by repeat (first | with_reducible exact Below.refl _ _ | with_reducible refine Below.drew ?_ | with_reducible refine Below.alloc ?_ (by first | omega | (simp <;> omega)) _ | with_reducible refine Below.setCell ?_ (by first | omega | (simp <;> omega)) _ | with_reducible refine Below.trans ?_ (Below.mono B1 (by first | omega | (simp <;> omega))))⟩

/-- Parse: the address that a text is read as. -/
theorem aparse_c (S : ByteArray) (hS : S.size ≤ 1000) (w : World) (hL : LW w) :
    Calls Tryz.prog 47 #[.string S] w fun e w' => ∃ (v : Bool) (h l c : Int), e = .returned (.tuple #[av v h l, .int .i64 c]) ∧ Hid (ParseIs S.data.toList v h l c) ∧ Below w.heap.size w w' := by
  cases hc : colonF S.data.toList
  · refine aparse_S S hS hc w hL (fun w h => readShort_w S hS w h) (fun h l ok hi => ?_)
    have e : parseF S.data.toList = (shortF 3 0 S.data.toList).map (fun n => (false, n)) := by unfold parseF; rw [if_neg (by rw [hc]; simp)]
    rcases hi with ⟨n, h1, h2, h3, rfl⟩ | ⟨h1, rfl, rfl, rfl⟩
    · exact Or.inl ⟨rfl, Or.inl ⟨n, by rw [e, h1]; rfl, h3, rfl⟩⟩
    · exact Or.inr ⟨rfl, Or.inr ⟨by rw [e, h1]; rfl, rfl, rfl, rfl, rfl⟩⟩
  · refine aparse_L S hS hc w hL (fun w h => ?_) (fun h l ok hi => ?_)
    · cases hcut : (cutG [58, 58] S.data.toList).2.2
      · exact readLong_one S hS hcut w h
      · exact readLong_two S hS hcut w h
    · have e : parseF S.data.toList = (longF S.data.toList).map (fun n => (true, n)) := by unfold parseF; rw [if_pos hc]
      rcases hi with ⟨n, h1, h3, rfl⟩ | ⟨h1, rfl, rfl, rfl⟩
      · exact Or.inl ⟨rfl, Or.inl ⟨n, by rw [e, h1]; rfl, h3, rfl⟩⟩
      · exact Or.inr ⟨rfl, Or.inr ⟨by rw [e, h1]; rfl, rfl, rfl, rfl, rfl⟩⟩

theorem aparse_is (S : ByteArray) (hS : S.size ≤ 1000) {v : Bool} {h l c : Int} (hp : ParseIs S.data.toList v h l c) (w : World) (hL : LW w) :
    Calls Tryz.prog 47 #[.string S] w fun e w' => e = .returned (.tuple #[av v h l, .int .i64 c]) ∧ Below w.heap.size w w' := by
  refine (aparse_c S hS w hL).mono ?_
  rintro e w' ⟨v', h', l', c', rfl, hp', hb⟩
  obtain ⟨rfl, rfl, rfl, rfl⟩ := hp'.out.uniq hp
  exact ⟨rfl, hb⟩

theorem parse_ex : parseF [58, 58, 102, 102, 102, 102, 58, 49, 46, 50, 46, 51, 46, 52] = some (true, 281470698652420) := by decide +kernel

theorem print_ex : prA true (2306139568115548160 * 18446744073709551616 + 1) = ⟨#[50, 48, 48, 49, 58, 100, 98, 56, 58, 58, 49]⟩ := by decide +kernel
end Go.Proofs.YtbecaepagachpaaGreatDoor
