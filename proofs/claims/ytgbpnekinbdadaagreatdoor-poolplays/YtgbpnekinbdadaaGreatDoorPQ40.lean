/-
  Texts BmB, BmO of the proof.
-/
import Derived.Laws.BytesArg
import Derived.Test.YtgbpnekinbdadaaGreatDoorPQ37

namespace Go.Proofs.YtgbpnekinbdadaaGreatDoor
open Go.ChangeShapes Go.WideShapes Go.ChangeAt Go.RowKit
set_option linter.unusedVariables false
set_option linter.unusedSimpArgs false

/-- Byte i of a map's bytes. -/
def byteAt (n : Nat) (f : Nat → Bool) (i : Nat) : Nat := if i < 4 then n / 2 ^ (8 * (3 - i)) % 256 else bsum f (8 * (i - 4)) 8

def bytesN (n : Nat) : Nat := 4 + (n + 7) / 8

def bytesS (n : Nat) (f : Nat → Bool) : ByteArray := strOfNums ((List.range (bytesN n)).map (fun i => (byteAt n f i : Int)))

/-- Block d holds L bytes. -/
def RowU (W : World) (d L : Nat) (h : Nat → Nat) : Prop := Blk W d ((List.range L).map (fun i => Value.int .u8 (h i : Int))).toArray 5

theorem RowU.get {W : World} {d L : Nat} {h : Nat → Nat} (k : RowU W d L h) {i : Nat} (hi : i < L) : W.cell? ⟨d, i, none⟩ = some (.int .u8 (h i : Int)) := by
 rw [Blk.cell k i]
 simp [hi]

theorem RowU.put {W : World} {d L : Nat} {h h' : Nat → Nat} (k : RowU W d L h) (i : Nat) {y : Int} (hy : y = (h' i : Int)) (ho : ∀ p, p < L → p ≠ i → h p = h' p) : RowU (W.setCell ⟨d, i, none⟩ (.int .u8 y)) d L h' := by
 subst hy
 have e : ((List.range L).map (fun i => Value.int .u8 (h i : Int))).toArray.setIfInBounds i (.int .u8 (h' i : Int)) = ((List.range L).map (fun i => Value.int .u8 (h' i : Int))).toArray := by
  apply Array.ext'
  simp only [Array.toList_setIfInBounds]
  apply List.ext_getElem?
  intro p
  rw [List.getElem?_set]
  by_cases hp : i = p
  ·subst hp
   by_cases hi : i < L <;> simp [hi]
  ·rw [if_neg hp]
   by_cases hi : p < L
   ·simp [hi, ho p hi (Ne.symm hp)]
   ·simp [hi]
 unfold RowU
 rw [← e]
 exact Blk.put k i _

theorem ret_int {k : IntKind} {a b : Int} (h : a = b) : Ending.returned (.int k a) = .returned (.int k b) := by rw [h]

theorem bytesFor_c (n : Nat) (hn : n ≤ 65536) (w : World) : Calls Tryz.prog 108 #[.int .i64 n] w fun e w' => e = .returned (.int .i64 (((n + 7) / 8 : Nat) : Int)) ∧ w' = w := by
 go_enter Tryz.func108, Tryz.ntmps108
 go_wp2
 go_ret
 exact ⟨ret_int (by omega), rfl⟩

theorem infoU8b : (Tryz.prog.info? 5).map (fun i => (i.zero, i.size, i.bytes)) = some (some (.int .u8 0), 1, 1) := by kernel_rfl

set_option maxHeartbeats 2000000 in
theorem bytes_core (a g n k : Nat) (f : Nat → Bool) (hn : n ≤ 65536) (w : World) (H : MapB w a g n f) :
  Calls Tryz.prog 64 #[.pointer (some ⟨a, 0, none⟩)] w fun e w' => e = .returned (.string (bytesS n f)) ∧ Below w.heap.size w w' := by
 obtain ⟨nb, hnb⟩ : ∃ nb, (n + 7) / 8 = nb := ⟨_, rfl⟩
 have hnl : nb ≤ 8192 := by omega
 have HF := hide (bytesFor_c n hn)
 rw [hnb] at HF
 have HN := hide hnb
 have HH := hide H
 obtain ⟨ws, hm, _⟩ := H.is
 have c0 := hm.head.cell 0
 simp at c0
 have ha := hm.head.lt
 have hmk : ∀ w, (Instr.makeSlice 107 (.int .i64 (4 + (nb : Int))) (.int .i64 (4 + (nb : Int)))).run Tryz.prog w = .ok (.slice (some ⟨w.heap.size, 0, none⟩) (4 + nb) (4 + nb)) (w.alloc (.cells (madeCells #[.int .u8 0] (4 + nb)) 5)) := fun w => by
  have := run_make_row' (P := Tryz.prog) 107 5 (.int .u8 0) 1 Tryz.underlying107 infoU8b rfl .i64 .i64 (4 + nb) (by omega) (by omega) w
  simpa using this
 clear H hm hnb
 go_enter Tryz.func64, Tryz.ntmps64
 go_wp2_with fail
 refine (HF.out _).mono ?_
 rintro e w1 ⟨rfl, rfl⟩
 have M0 : RowU (w1.alloc (.cells (madeCells #[.int .u8 0] (4 + nb)) 5)) w1.heap.size (4 + nb) (fun i => if i < 0 then byteAt n f i else 0) := by
  have e : madeCells #[Value.int IntKind.u8 0] (4 + nb) = ((List.range (4 + nb)).map (fun i => Value.int .u8 (((if i < 0 then byteAt n f i else 0 : Nat)) : Int))).toArray := by
   apply Array.ext'; rw [toList_madeCells_one]; simp [List.map_const']
  unfold RowU
  rw [← e]
  exact Blk.new _ _ _
 have B0 : Below w1.heap.size w1 (w1.alloc (.cells (madeCells #[.int .u8 0] (4 + nb)) 5)) := by repeat (first | with_reducible exact Below.refl _ _ | with_reducible refine Below.drew ?_ | with_reducible refine Below.alloc ?_ (by first | omega | (simp <;> omega)) _ | with_reducible refine Below.setCell ?_ (by first | omega | (simp <;> omega)) _)
 have MH := hide M0
 have BH := hide B0
 clear M0 B0
 go_wp2_with fail
 go_loopw [15] (fun t wr => ∃ k : Nat, k ≤ 4 ∧ t = .int .i64 k ∧ Hid (RowU wr w1.heap.size (4 + nb) (fun i => if i < k then byteAt n f i else 0)) ∧ Hid (Below w1.heap.size w1 wr)) (fun t _ => 4 - (intOf t).toNat)
 case atStart => exact ⟨0, by omega, rfl, MH, BH⟩
 case round =>
  clear MH BH
  obtain ⟨k, hk, rfl, hM, hB⟩ := hrel
  have c0r := (hB.out.cell (p := ⟨a, 0, none⟩) ha).trans c0
  by_cases hlt : k < 4
  ·have hg := hM.out.get (i := k) (by omega)
   have hz := Blk.frozen hM.out k
   have NX : Hid (∀ y : Int, y = (byteAt n f k : Int) → RowU (wr.setCell ⟨w1.heap.size, k, none⟩ (.int .u8 y)) w1.heap.size (4 + nb) (fun i => if i < k + 1 then byteAt n f i else 0)) := fun y hy => hM.out.put k (by rw [if_pos (by omega)]; exact hy) (fun p _ hp => by
    by_cases h : p < k
    ·rw [if_pos h, if_pos (by omega)]
    ·rw [if_neg h, if_neg (by omega)])
   have NB : Hid (∀ v, Below w1.heap.size w1 (wr.setCell ⟨w1.heap.size, k, none⟩ v)) := fun v => hB.out.setCell (p := ⟨w1.heap.size, k, none⟩) (Nat.le_refl _) v
   have hby : byteAt n f k = n / 2 ^ (8 * (3 - k)) % 256 := by unfold byteAt; rw [if_pos hlt]
   have HY := hide hby
   clear hM hB hby c0
   simp only [Nat.lt_irrefl, if_false] at hg
   rcases (show k = 0 ∨ k = 1 ∨ k = 2 ∨ k = 3 by omega) with rfl | rfl | rfl | rfl
   all_goals
    go_wp2
    go_roundw
    case measure => simp [intOf]
    case rel => exact ⟨_, by omega, by simp, NX.out _ (by rw [HY.out]; simp <;> omega), NB.out _⟩
  ·obtain rfl : k = 4 := by omega
   have hM4 : Hid (RowU wr w1.heap.size (4 + nb) (fun i => if i < 4 + 0 then byteAt n f i else 0)) := hM
   have HHr := hide (HH.out.below hB.out)
   clear hM HH hlt
   go_wp2_with fail
   refine (HF.out _).mono ?_
   rintro e w2 ⟨rfl, rfl⟩
   clear HF
   go_wp2_with fail
   go_loopw [36] (fun t wr => ∃ k : Nat, k ≤ nb ∧ t = .int .i64 k ∧ Hid (RowU wr w1.heap.size (4 + nb) (fun i => if i < 4 + k then byteAt n f i else 0)) ∧ Hid (MapB wr a g n f) ∧ Hid (Below w1.heap.size w1 wr)) (fun t _ => nb - (intOf t).toNat)
   case atStart => exact ⟨0, by omega, rfl, hM4, HHr, hB⟩
   case round =>
    clear hM4 HHr hB c0r
    obtain ⟨k, hk, rfl, hM, hP, hB⟩ := hrel
    by_cases hlt : k < nb
    ·have hlt' : (k : Int) < nb := by omega
     have hg := hM.out.get (i := 4 + k) (by omega)
     have hz := Blk.frozen hM.out (4 + k)
     have nd := hP.out.neOf (c := w1.heap.size) hM.out (by decide) (by decide)
     have hn8 := HN.out
     obtain ⟨us, hu, hub⟩ := hP.out.is
     have hul := hu.len
     have hkl : k / 8 < us.length := by omega
     obtain ⟨hx, hxl⟩ := hu.get hkl
     have s1 := hu.head.cell 1
     have x1 := (hu.row.cell (k / 8)).trans hx
     simp only [List.getElem?_toArray, List.getElem?_cons_succ, List.getElem?_cons_zero] at s1
     obtain ⟨xw, hxw⟩ : ∃ xw, us.getD (k / 8) 0 = xw := ⟨_, rfl⟩
     rw [hxw] at x1 hxl
     have wb := word_byte (f := f) (x := xw) (i := k / 8) (r := k % 8) (fun j hj => by rw [← hxw, ← bitL_at hj, hub]) (by omega)
     rw [show 8 * (k / 8) + k % 8 = k by omega] at wb
     obtain ⟨ul, hul2⟩ : ∃ ul, us.length = ul := ⟨_, rfl⟩
     rw [hul2] at s1 hkl
     have hul3 : ul ≤ 1024 := by omega
     have hby : byteAt n f (4 + k) = xw / 2 ^ (8 * (k % 8)) % 256 := by
      unfold byteAt; rw [if_neg (by omega), wb, show 4 + k - 4 = k by omega]
     have HY := hide hby
     have NX : Hid (∀ y : Int, y = (byteAt n f (4 + k) : Int) → RowU (wr.setCell ⟨w1.heap.size, 4 + k, none⟩ (.int .u8 y)) w1.heap.size (4 + nb) (fun i => if i < 4 + (k + 1) then byteAt n f i else 0)) := fun y hy => hM.out.put (4 + k) (by rw [if_pos (by omega)]; exact hy) (fun p _ hp => by
      by_cases h : p < 4 + k
      ·rw [if_pos h, if_pos (by omega)]
      ·rw [if_neg h, if_neg (by omega)])
     have NB : Hid (∀ v, Below w1.heap.size w1 (wr.setCell ⟨w1.heap.size, 4 + k, none⟩ v)) := fun v => hB.out.setCell (p := ⟨w1.heap.size, 4 + k, none⟩) (Nat.le_refl _) v
     have NP : Hid (∀ v, MapB (wr.setCell ⟨w1.heap.size, 4 + k, none⟩ v) a g n f) := fun v => hP.out.setFar nd.1 nd.2 _ v
     have hkl' : (k : Int) / 8 < ul := by omega
     clear hM hB hP hby wb hxw hul2 hul hub hu hx hn8 nd
     simp only [Nat.lt_irrefl, if_false] at hg
     go_wp2
     go_roundw
     case measure => simp [intOf]; omega
     case rel =>
      refine ⟨k + 1, by omega, by go_num, NX.out _ ?_, NP.out _, NB.out _⟩
      have e2 : (2 : Int) ^ (8 * (k % 8)) = ((2 ^ (8 * (k % 8)) : Nat) : Int) := by rw [Int.natCast_pow]; rfl
      rw [HY.out, e2]
      rfl
    ·obtain rfl : k = nb := by omega
     have cv : (convert 107 9 (.slice (some ⟨w1.heap.size, 0, none⟩) (4 + k) (4 + k))).run Tryz.prog wr = .ok (.string (bytesS n f)) wr := by
      have hN : bytesN n = 4 + k := by unfold bytesN; rw [HN.out]
      refine run_convert_bytes_arg (P := Tryz.prog) wr 107 5 Tryz.underlying107 Tryz.underlying5 w1.heap.size 0 (4 + k) (4 + k) ((List.range (bytesN n)).map (fun i => (byteAt n f i : Int))) (by simp [hN]) (fun i hi => ?_) 9 Tryz.underlying9
      rw [Nat.zero_add, hM.out.get hi, if_pos hi]
      simp [hN, hi]
     have hB' := hB.out
     clear hM hB hP hlt
     go_wp2
     go_ret
     exact ⟨rfl, hB'⟩

theorem bytes_ok (a g n : Nat) (f : Nat → Bool) (w : World) (H : MapB w a g n f) : Calls Tryz.prog 64 #[.pointer (some ⟨a, 0, none⟩)] w fun e w' => e = .returned (.string (bytesS n f)) ∧ Below w.heap.size w w' :=
 bytes_core a g n 0 f H.lt.2.2.2 w H


open Go.RowKit

/-- Byte i of a string. -/
def sb (s : ByteArray) (i : Nat) : Nat := (s.data.toList.getD i 0).toNat

theorem bytesS_list (n : Nat) (f : Nat → Bool) : (bytesS n f).data.toList = (List.range (bytesN n)).map (fun i => UInt8.ofNat (byteAt n f i)) := by
 unfold bytesS
 rw [strOfNums_data, List.map_map]
 rfl

end Go.Proofs.YtgbpnekinbdadaaGreatDoor
