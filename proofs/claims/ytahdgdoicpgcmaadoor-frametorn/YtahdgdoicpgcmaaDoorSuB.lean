/-
  Package sum: Lay, Read; the reference's Lay.
-/
import Derived.Test.YtahdgdoicpgcmaaDoorSuL
import Derived.Deep.OwnRows
namespace Go.Proofs.YtahdgdoicpgcmaaDoor
open Go.ChangeShapes Go.WideShapes Go.ChangeAt Go.RowKit
set_option linter.unusedVariables false
set_option linter.unusedSimpArgs false

/-- A word's four bytes, the lowest first. -/
def layS (n : Nat) : ByteArray := strOfNums ((List.range 4).map fun i => (byteW n i : Int))

/-- Block d holds L bytes. -/
def RowQ (W : World) (d L : Nat) (h : Nat → Nat) : Prop := Blk W d ((List.range L).map (fun i => Value.int .u8 (h i : Int))).toArray 5

theorem RowQ.get {W : World} {d L : Nat} {h : Nat → Nat} (k : RowQ W d L h) {i : Nat} (hi : i < L) : W.cell? ⟨d, i, none⟩ = some (.int .u8 (h i : Int)) := by
  rw [Blk.cell k i]
  simp [hi]

theorem RowQ.put {W : World} {d L : Nat} {h h' : Nat → Nat} (k : RowQ W d L h) (i : Nat) {y : Int} (hy : y = (h' i : Int)) (ho : ∀ p, p < L → p ≠ i → h p = h' p) : RowQ (W.setCell ⟨d, i, none⟩ (.int .u8 y)) d L h' := by
  subst hy
  have e : ((List.range L).map (fun i => Value.int .u8 (h i : Int))).toArray.setIfInBounds i (.int .u8 (h' i : Int)) = ((List.range L).map (fun i => Value.int .u8 (h' i : Int))).toArray := by
    apply Array.ext'
    simp only [Array.toList_setIfInBounds]
    apply List.ext_getElem?
    intro p
    rw [List.getElem?_set]
    by_cases hp : i = p
    · subst hp
      by_cases hi : i < L <;> simp [hi]
    · rw [if_neg hp]
      by_cases hi : p < L
      · simp [hi, ho p hi (Ne.symm hp)]
      · simp [hi]
  unfold RowQ
  rw [← e]
  exact Blk.put k i _

theorem infoQ : (Tryd.prog.info? 5).map (fun i => (i.zero, i.size, i.bytes)) = some (some (.int .u8 0), 1, 1) := by kernel_rfl

set_option maxRecDepth 100000 in
set_option maxHeartbeats 1600000 in
theorem lay_c {n : Nat} (hn : n ≤ 4294967295) (w : World) :
    Calls Tryd.prog 16 #[.int .u32 n] w fun e w' => e = .returned (.string (layS n)) ∧ Below w.heap.size w w' := by
  have hmk : ∀ w, (Instr.makeSlice 45 (.int .i64 4) (.int .i64 4)).run Tryd.prog w = .ok (.slice (some ⟨w.heap.size, 0, none⟩) 4 4) (w.alloc (.cells (madeCells #[.int .u8 0] 4) 5)) := fun w => by
    have := run_make_row' (P := Tryd.prog) 45 5 (.int .u8 0) 1 Tryd.underlying45 infoQ rfl .i64 .i64 4 (by omega) (by omega) w
    simpa using this
  have M0 : RowQ (w.alloc (.cells (madeCells #[.int .u8 0] 4) 5)) w.heap.size 4 (fun i => if i < 0 then byteW n i else 0) := by
    have e : madeCells #[Value.int IntKind.u8 0] 4 = ((List.range 4).map (fun i => Value.int .u8 (((if i < 0 then byteW n i else 0 : Nat)) : Int))).toArray := by
      apply Array.ext'; rw [toList_madeCells_one]; simp [List.map_const']
    unfold RowQ
    rw [← e]
    exact Blk.new _ _ _
  have B0 : Below w.heap.size w (w.alloc (.cells (madeCells #[.int .u8 0] 4) 5)) := by repeat (first | with_reducible exact Below.refl _ _ | with_reducible refine Below.drew ?_ | with_reducible refine Below.alloc ?_ (by first | omega | (simp <;> omega)) _ | with_reducible refine Below.setCell ?_ (by first | omega | (simp <;> omega)) _)
  have MH := hide M0
  have BH := hide B0
  clear M0 B0
  go_enter Tryd.func16, Tryd.ntmps16
  go_wp2_with fail
  go_loopw [6] (fun t wr => ∃ k : Nat, k ≤ 4 ∧ t = .int .i64 k ∧ Hid (RowQ wr w.heap.size 4 (fun i => if i < k then byteW n i else 0)) ∧ Hid (Below w.heap.size w wr)) (fun t _ => 4 - (intOf t).toNat)
  case atStart => exact ⟨0, by omega, rfl, MH, BH⟩
  case round =>
    clear MH BH
    obtain ⟨k, hk, rfl, hM, hB⟩ := hrel
    by_cases hlt : k < 4
    · have hg := hM.out.get (i := k) (by omega)
      have hz := Blk.frozen hM.out k
      have NX : Hid (∀ y : Int, y = (byteW n k : Int) → RowQ (wr.setCell ⟨w.heap.size, k, none⟩ (.int .u8 y)) w.heap.size 4 (fun i => if i < k + 1 then byteW n i else 0)) := fun y hy => hM.out.put k (by rw [if_pos (by omega)]; exact hy) (fun p _ hp => by
        by_cases h : p < k
        · rw [if_pos h, if_pos (by omega)]
        · rw [if_neg h, if_neg (by omega)])
      have NB : Hid (∀ v, Below w.heap.size w (wr.setCell ⟨w.heap.size, k, none⟩ v)) := fun v => hB.out.setCell (p := ⟨w.heap.size, k, none⟩) (Nat.le_refl _) v
      have hby : byteW n k = n / 2 ^ (8 * k) % 256 := rfl
      have HY := hide hby
      clear hM hB hby
      simp only [Nat.lt_irrefl, if_false] at hg
      rcases (show k = 0 ∨ k = 1 ∨ k = 2 ∨ k = 3 by omega) with rfl | rfl | rfl | rfl
      all_goals
        go_wp2
        go_roundw
        case measure => simp [intOf]
        case rel => exact ⟨_, by omega, by simp, NX.out _ (by rw [HY.out]; simp <;> omega), NB.out _⟩
    · obtain rfl : k = 4 := by omega
      have cv : (convert 45 9 (.slice (some ⟨w.heap.size, 0, none⟩) 4 4)).run Tryd.prog wr = .ok (.string (layS n)) wr := by
        refine run_convert_bytes_arg (P := Tryd.prog) wr 45 5 Tryd.underlying45 Tryd.underlying5 w.heap.size 0 4 4 ((List.range 4).map fun i => (byteW n i : Int)) (by simp) (fun i hi => ?_) 9 Tryd.underlying9
        rw [Nat.zero_add, hM.out.get hi, if_pos hi]
        simp [hi]
      have hB' := hB.out
      clear hM hB hlt
      go_wp2
      go_ret
      exact ⟨rfl, hB'⟩

/-- The word that the first k bytes tell. -/
def readV (s : ByteArray) : Nat → Nat
  | 0 => 0
  | k + 1 => readV s k + 2 ^ (8 * k) * sb8 s k

theorem readV_lt (s : ByteArray) : ∀ k, readV s k < 2 ^ (8 * k)
  | 0 => by simp [readV]
  | k + 1 => by
    have ih := readV_lt s k
    have b := sb8_lt s k
    rw [show 8 * (k + 1) = 8 * k + 8 by omega, Nat.pow_add]
    simp only [readV]
    have : 2 ^ (8 * k) * sb8 s k ≤ 2 ^ (8 * k) * 255 := Nat.mul_le_mul_left _ (by omega)
    omega

theorem read_step (s : ByteArray) {k : Nat} (hk : k < 4) : 2 ^ (8 * k) * sb8 s k < 4294967296 ∧ IntKind.u32.wrap ((sb8 s k : Int) * 2 ^ (8 * k)) = ((2 ^ (8 * k) * sb8 s k : Nat) : Int) ∧ bits .or .u32 (readV s k : Int) ((2 ^ (8 * k) * sb8 s k : Nat) : Int) = (readV s (k + 1) : Int) := by
  have l := readV_lt s k
  have b := sb8_lt s k
  have p : 2 ^ (8 * k) ≤ 2 ^ 24 := Nat.pow_le_pow_right (by decide) (by omega)
  have lt : 2 ^ (8 * k) * sb8 s k < 4294967296 := by
    have : 2 ^ (8 * k) * sb8 s k ≤ 2 ^ 24 * 255 := Nat.mul_le_mul p (by omega)
    omega
  have e : (sb8 s k : Int) * 2 ^ (8 * k) = ((2 ^ (8 * k) * sb8 s k : Nat) : Int) := by
    rw [Int.natCast_mul, Int.natCast_pow, Int.mul_comm]
    rfl
  refine ⟨lt, ?_, ?_⟩
  · rw [e]
    generalize 2 ^ (8 * k) * sb8 s k = q at *
    simp [IntKind.wrap, IntKind.bits, IntKind.signed]
    omega
  · rw [u32_or_nat (readV s k) (2 ^ (8 * k) * sb8 s k) (by omega) lt]
    have := Nat.two_pow_add_eq_or_of_lt l (sb8 s k)
    rw [readV, Nat.or_comm, ← this]
    congr 1
    omega

set_option maxHeartbeats 800000 in
theorem read_no (s : ByteArray) (hs : s.size ≤ maxLen) (h4 : ¬ s.size = 4) (w : World) :
    Calls Tryd.prog 25 #[.string s] w fun e w' => e = .returned (.tuple #[.int .u32 0, .int .i64 4]) ∧ w' = w := by
  unfold maxLen at hs
  have c4 : ((s.size : Int) != 4) = true := by simp; omega
  go_enter Tryd.func25, Tryd.ntmps25
  go_wp2
  go_ret2
  exact ⟨by first | rfl | simp, rfl⟩

set_option maxRecDepth 100000 in
set_option maxHeartbeats 1600000 in
theorem read_ok (s : ByteArray) (h4 : s.size = 4) {v : Nat} (hv : readV s 4 = v) (w : World) :
    Calls Tryd.prog 25 #[.string s] w fun e w' => e = .returned (.tuple #[.int .u32 v, .int .i64 0]) ∧ w' = w := by
  have c4 : ((s.size : Int) != 4) = false := by simp; omega
  have HV := hide hv
  have ST := hide (fun k (hk : k < 4) => read_step s hk)
  clear hv
  go_enter Tryd.func25, Tryd.ntmps25
  go_wp2_with fail
  go_loop [4, 9] (fun r i => ∃ k : Nat, k ≤ 4 ∧ i = .int .i64 k ∧ r = .int .u32 (readV s k : Nat)) (fun _ i => 4 - (intOf i).toNat)
  case atStart => exact ⟨0, Nat.zero_le _, rfl, rfl⟩
  case round =>
    obtain ⟨k, hk, rfl, rfl⟩ := hrel
    by_cases hlt : k < 4
    · obtain ⟨ql, s1, s2⟩ := ST.out k hlt
      have hks : k < s.size := by omega
      have bg := sb8_get s k hks
      have bl := sb8_lt s k
      obtain ⟨c, ec⟩ : ∃ c, sb8 s k = c := ⟨_, rfl⟩
      obtain ⟨X, eX⟩ : ∃ X, readV s k = X := ⟨_, rfl⟩
      obtain ⟨Y, eY⟩ : ∃ Y, readV s (k + 1) = Y := ⟨_, rfl⟩
      obtain ⟨q, eq⟩ : ∃ q, 2 ^ (8 * k) * c = q := ⟨_, rfl⟩
      have HY := hide eY
      rw [ec] at bg bl s1 s2 ql
      rw [eq] at s1 s2 ql
      rw [eX, eY] at s2
      rw [eX]
      clear ec eX eY eq ST HV
      rcases (show k = 0 ∨ k = 1 ∨ k = 2 ∨ k = 3 by omega) with rfl | rfl | rfl | rfl
      all_goals
        simp at s1
        go_wp2
        go_round
        case rel => first | exact ⟨1, by omega, by simp, by rw [HY.out]⟩ | exact ⟨2, by omega, by simp, by rw [HY.out]⟩ | exact ⟨3, by omega, by simp, by rw [HY.out]⟩ | exact ⟨4, by omega, by simp, by rw [HY.out]⟩
        case measure => simp [intOf]
    · obtain rfl : k = 4 := by omega
      have hv := HV.out
      rw [hv]
      go_wp2
      go_ret2
      exact ⟨by first | rfl | simp, rfl⟩
end Go.Proofs.YtahdgdoicpgcmaaDoor
