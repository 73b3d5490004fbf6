/-
  Texts BmB, BmO, BmO2, BmO3 of the proof.
-/
import Derived.Laws.BytesArg
import Derived.Test.YtighdocmncbdnaaGreatDoorQBy38

namespace Go.Proofs.YtighdocmncbdnaaGreatDoor
open Go.ChangeShapes Go.WideShapes Go.ChangeAt Go.RowKit
set_option linter.unusedVariables false
set_option linter.unusedSimpArgs false

/-- Byte i of a map's bytes. -/
def byteAt (n : Nat) (f : Nat → Bool) (i : Nat) : Nat := if i < 4 then n / 2 ^ (8 * (3 - i)) % 256 else bsum f (8 * (i - 4)) 8

def bytesN (n : Nat) : Nat := 4 + (n + 7) / 8

def bytesS (n : Nat) (f : Nat → Bool) : ByteArray := strOfNums ((List.range (bytesN n)).map (fun i => (byteAt n f i : Int)))

/-- Block d holds L bytes. -/
def RowU (W : World) (d L : Nat) (h : Nat → Nat) : Prop := Blk W d ((List.range L).map (fun i => Value.int .u8 (h i : Int))).toArray 5

theorem RowU.get {W : World} {d L : Nat} {h : Nat → Nat} (k : RowU W d L h) {i : Nat} (hi : i < L) : W.cell? ⟨d, i, none⟩ = some (.int .u8 (h i : Int)) := by
  rw [Blk.cell k i]
  simp [hi]

theorem RowU.put {W : World} {d L : Nat} {h h' : Nat → Nat} (k : RowU W d L h) (i : Nat) {y : Int} (hy : y = (h' i : Int)) (ho : ∀ p, p < L → p ≠ i → h p = h' p) : RowU (W.setCell ⟨d, i, none⟩ (.int .u8 y)) d L h' := by
  subst hy
  have e : ((List.range L).map (fun i => Value.int .u8 (h i : Int))).toArray.setIfInBounds i (.int .u8 (h' i : Int)) = ((List.range L).map (fun i => Value.int .u8 (h' i : Int))).toArray := by
    apply Array.ext'
    simp only [Array.toList_setIfInBounds]
    apply List.ext_getElem?
    intro p
    rw [List.getElem?_set]
    by_cases hp : i = p
    · subst hp
      by_cases hi : i < L <;> simp [hi]
    · rw [if_neg hp]
      by_cases hi : p < L
      · simp [hi, ho p hi (Ne.symm hp)]
      · simp [hi]
  unfold RowU
  rw [← e]
  exact Blk.put k i _

theorem ret_int {k : IntKind} {a b : Int} (h : a = b) : Ending.returned (.int k a) = .returned (.int k b) := by rw [h]

theorem bytesFor_c (n : Nat) (hn : n ≤ 65536) (w : World) : Calls Tryz.prog 117 #[.int .i64 n] w fun e w' => e = .returned (.int .i64 (((n + 7) / 8 : Nat) : Int)) ∧ w' = w := by
  go_enter Tryz.func117, Tryz.ntmps117
  go_wp2
  go_ret
  exact ⟨ret_int (by omega), rfl⟩

theorem infoU8b : (Tryz.prog.info? 5).map (fun i => (i.zero, i.size, i.bytes)) = some (some (.int .u8 0), 1, 1) := by kernel_rfl

set_option maxHeartbeats 2000000 in
theorem bytes_core (a g n k : Nat) (f : Nat → Bool) (hn : n ≤ 65536) (w : World) (H : MapB w a g n f) :
    Calls Tryz.prog 73 #[.pointer (some ⟨a, 0, none⟩)] w fun e w' => e = .returned (.string (bytesS n f)) ∧ Below w.heap.size w w' := by
  obtain ⟨nb, hnb⟩ : ∃ nb, (n + 7) / 8 = nb := ⟨_, rfl⟩
  have hnl : nb ≤ 8192 := by omega
  have HF := hide (bytesFor_c n hn)
  rw [hnb] at HF
  have HN := hide hnb
  have HH := hide H
  obtain ⟨ws, hm, _⟩ := H.is
  have c0 := hm.head.cell 0
  simp at c0
  have ha := hm.head.lt
  have hmk : ∀ w, (Instr.makeSlice 117 (.int .i64 (4 + (nb : Int))) (.int .i64 (4 + (nb : Int)))).run Tryz.prog w = .ok (.slice (some ⟨w.heap.size, 0, none⟩) (4 + nb) (4 + nb)) (w.alloc (.cells (madeCells #[.int .u8 0] (4 + nb)) 5)) := fun w => by
    have := run_make_row' (P := Tryz.prog) 117 5 (.int .u8 0) 1 Tryz.underlying117 infoU8b rfl .i64 .i64 (4 + nb) (by omega) (by omega) w
    simpa using this
  clear H hm hnb
  go_enter Tryz.func73, Tryz.ntmps73
  go_wp2_with fail
  refine (HF.out _).mono ?_
  rintro e w1 ⟨rfl, rfl⟩
  have M0 : RowU (w1.alloc (.cells (madeCells #[.int .u8 0] (4 + nb)) 5)) w1.heap.size (4 + nb) (fun i => if i < 0 then byteAt n f i else 0) := by
    have e : madeCells #[Value.int IntKind.u8 0] (4 + nb) = ((List.range (4 + nb)).map (fun i => Value.int .u8 (((if i < 0 then byteAt n f i else 0 : Nat)) : Int))).toArray := by
      apply Array.ext'; rw [toList_madeCells_one]; simp [List.map_const']
    unfold RowU
    rw [← e]
    exact Blk.new _ _ _
  have B0 : Below w1.heap.size w1 (w1.alloc (.cells (madeCells #[.int .u8 0] (4 + nb)) 5)) := by repeat (first | with_reducible exact Below.refl _ _ | with_reducible refine Below.drew ?_ | with_reducible refine Below.alloc ?_ (by first | omega | (simp <;> omega)) _ | with_reducible refine Below.setCell ?_ (by first | omega | (simp <;> omega)) _)
  have MH := hide M0
  have BH := hide B0
  clear M0 B0
  go_wp2_with fail
  go_loopw [15] (fun t wr => ∃ k : Nat, k ≤ 4 ∧ t = .int .i64 k ∧ Hid (RowU wr w1.heap.size (4 + nb) (fun i => if i < k then byteAt n f i else 0)) ∧ Hid (Below w1.heap.size w1 wr)) (fun t _ => 4 - (intOf t).toNat)
  case atStart => exact ⟨0, by omega, rfl, MH, BH⟩
  case round =>
    clear MH BH
    obtain ⟨k, hk, rfl, hM, hB⟩ := hrel
    have c0r := (hB.out.cell (p := ⟨a, 0, none⟩) ha).trans c0
    by_cases hlt : k < 4
    · have hg := hM.out.get (i := k) (by omega)
      have hz := Blk.frozen hM.out k
      have NX : Hid (∀ y : Int, y = (byteAt n f k : Int) → RowU (wr.setCell ⟨w1.heap.size, k, none⟩ (.int .u8 y)) w1.heap.size (4 + nb) (fun i => if i < k + 1 then byteAt n f i else 0)) := fun y hy => hM.out.put k (by rw [if_pos (by omega)]; exact hy) (fun p _ hp => by
        by_cases h : p < k
        · rw [if_pos h, if_pos (by omega)]
        · rw [if_neg h, if_neg (by omega)])
      have NB : Hid (∀ v, Below w1.heap.size w1 (wr.setCell ⟨w1.heap.size, k, none⟩ v)) := fun v => hB.out.setCell (p := ⟨w1.heap.size, k, none⟩) (Nat.le_refl _) v
      have hby : byteAt n f k = n / 2 ^ (8 * (3 - k)) % 256 := by unfold byteAt; rw [if_pos hlt]
      have HY := hide hby
      clear hM hB hby c0
      simp only [Nat.lt_irrefl, if_false] at hg
      rcases (show k = 0 ∨ k = 1 ∨ k = 2 ∨ k = 3 by omega) with rfl | rfl | rfl | rfl
      all_goals
        go_wp2
        go_roundw
        case measure => simp [intOf]
        case rel => exact ⟨_, by omega, by simp, NX.out _ (by rw [HY.out]; simp <;> omega), NB.out _⟩
    · obtain rfl : k = 4 := by omega
      have hM4 : Hid (RowU wr w1.heap.size (4 + nb) (fun i => if i < 4 + 0 then byteAt n f i else 0)) := hM
      have HHr := hide (HH.out.below hB.out)
      clear hM HH hlt
      go_wp2_with fail
      refine (HF.out _).mono ?_
      rintro e w2 ⟨rfl, rfl⟩
      clear HF
      go_wp2_with fail
      go_loopw [36] (fun t wr => ∃ k : Nat, k ≤ nb ∧ t = .int .i64 k ∧ Hid (RowU wr w1.heap.size (4 + nb) (fun i => if i < 4 + k then byteAt n f i else 0)) ∧ Hid (MapB wr a g n f) ∧ Hid (Below w1.heap.size w1 wr)) (fun t _ => nb - (intOf t).toNat)
      case atStart => exact ⟨0, by omega, rfl, hM4, HHr, hB⟩
      case round =>
        clear hM4 HHr hB c0r
        obtain ⟨k, hk, rfl, hM, hP, hB⟩ := hrel
        by_cases hlt : k < nb
        · have hlt' : (k : Int) < nb := by omega
          have hg := hM.out.get (i := 4 + k) (by omega)
          have hz := Blk.frozen hM.out (4 + k)
          have nd := hP.out.neOf (c := w1.heap.size) hM.out (by decide) (by decide)
          have hn8 := HN.out
          obtain ⟨us, hu, hub⟩ := hP.out.is
          have hul := hu.len
          have hkl : k / 8 < us.length := by omega
          obtain ⟨hx, hxl⟩ := hu.get hkl
          have s1 := hu.head.cell 1
          have x1 := (hu.row.cell (k / 8)).trans hx
          simp only [List.getElem?_toArray, List.getElem?_cons_succ, List.getElem?_cons_zero] at s1
          obtain ⟨xw, hxw⟩ : ∃ xw, us.getD (k / 8) 0 = xw := ⟨_, rfl⟩
          rw [hxw] at x1 hxl
          have wb := word_byte (f := f) (x := xw) (i := k / 8) (r := k % 8) (fun j hj => by rw [← hxw, ← bitL_at hj, hub]) (by omega)
          rw [show 8 * (k / 8) + k % 8 = k by omega] at wb
          obtain ⟨ul, hul2⟩ : ∃ ul, us.length = ul := ⟨_, rfl⟩
          rw [hul2] at s1 hkl
          have hul3 : ul ≤ 1024 := by omega
          have hby : byteAt n f (4 + k) = xw / 2 ^ (8 * (k % 8)) % 256 := by
            unfold byteAt; rw [if_neg (by omega), wb, show 4 + k - 4 = k by omega]
          have HY := hide hby
          have NX : Hid (∀ y : Int, y = (byteAt n f (4 + k) : Int) → RowU (wr.setCell ⟨w1.heap.size, 4 + k, none⟩ (.int .u8 y)) w1.heap.size (4 + nb) (fun i => if i < 4 + (k + 1) then byteAt n f i else 0)) := fun y hy => hM.out.put (4 + k) (by rw [if_pos (by omega)]; exact hy) (fun p _ hp => by
            by_cases h : p < 4 + k
            · rw [if_pos h, if_pos (by omega)]
            · rw [if_neg h, if_neg (by omega)])
          have NB : Hid (∀ v, Below w1.heap.size w1 (wr.setCell ⟨w1.heap.size, 4 + k, none⟩ v)) := fun v => hB.out.setCell (p := ⟨w1.heap.size, 4 + k, none⟩) (Nat.le_refl _) v
          have NP : Hid (∀ v, MapB (wr.setCell ⟨w1.heap.size, 4 + k, none⟩ v) a g n f) := fun v => hP.out.setFar nd.1 nd.2 _ v
          have hkl' : (k : Int) / 8 < ul := by omega
          clear hM hB hP hby wb hxw hul2 hul hub hu hx hn8 nd
          simp only [Nat.lt_irrefl, if_false] at hg
          go_wp2
          go_roundw
          case measure => simp [intOf]; omega
          case rel =>
            refine ⟨k + 1, by omega, by go_num, NX.out _ ?_, NP.out _, NB.out _⟩
            have e2 : (2 : Int) ^ (8 * (k % 8)) = ((2 ^ (8 * (k % 8)) : Nat) : Int) := by rw [Int.natCast_pow]; rfl
            rw [HY.out, e2]
            rfl
        · obtain rfl : k = nb := by omega
          have cv : (convert 117 9 (.slice (some ⟨w1.heap.size, 0, none⟩) (4 + k) (4 + k))).run Tryz.prog wr = .ok (.string (bytesS n f)) wr := by
            have hN : bytesN n = 4 + k := by unfold bytesN; rw [HN.out]
            refine run_convert_bytes_arg (P := Tryz.prog) wr 117 5 Tryz.underlying117 Tryz.underlying5 w1.heap.size 0 (4 + k) (4 + k) ((List.range (bytesN n)).map (fun i => (byteAt n f i : Int))) (by simp [hN]) (fun i hi => ?_) 9 Tryz.underlying9
            rw [Nat.zero_add, hM.out.get hi, if_pos hi]
            simp [hN, hi]
          have hB' := hB.out
          clear hM hB hP hlt
          go_wp2
          go_ret
          exact ⟨rfl, hB'⟩

theorem bytes_ok (a g n : Nat) (f : Nat → Bool) (w : World) (H : MapB w a g n f) : Calls Tryz.prog 73 #[.pointer (some ⟨a, 0, none⟩)] w fun e w' => e = .returned (.string (bytesS n f)) ∧ Below w.heap.size w w' :=
  bytes_core a g n 0 f H.lt.2.2.2 w H

end Go.Proofs.YtighdocmncbdnaaGreatDoor

namespace Go.Proofs.YtighdocmncbdnaaGreatDoor
open Go.RowKit
set_option linter.unusedVariables false
set_option linter.unusedSimpArgs false

/-- Byte i of a string. -/
def sb (s : ByteArray) (i : Nat) : Nat := (s.data.toList.getD i 0).toNat

theorem sb_get (s : ByteArray) (i : Nat) (h : i < s.size) : s[i].toNat = sb s i := by
  unfold sb
  have h' : i < s.data.toList.length := by rw [Array.length_toList]; exact h
  rw [List.getD_eq_getElem?_getD, List.getElem?_eq_getElem h']
  rfl

theorem sb_lt (s : ByteArray) (i : Nat) : sb s i < 256 := by
  unfold sb
  exact UInt8.toNat_lt _

theorem sb_far (s : ByteArray) (i : Nat) (h : s.size ≤ i) : sb s i = 0 := by
  unfold sb
  have h' : s.data.toList.length ≤ i := by rw [Array.length_toList]; exact h
  rw [List.getD_eq_getElem?_getD, List.getElem?_eq_none h']
  rfl

/-- The size that bytes tell. -/
def toldV (s : ByteArray) : Nat → Nat
  | 0 => 0
  | k + 1 => toldV s k * 256 + sb s k

def toldT (s : ByteArray) : Nat := toldV s 4

theorem toldV_lt (s : ByteArray) : ∀ k, toldV s k < 256 ^ k
  | 0 => by simp [toldV]
  | k + 1 => by
    have h := toldV_lt s k
    have b := sb_lt s k
    rw [Nat.pow_succ]
    simp only [toldV]
    omega

theorem toldT_eq (s : ByteArray) : toldT s = sb s 0 * 16777216 + sb s 1 * 65536 + sb s 2 * 256 + sb s 3 := by
  unfold toldT
  simp only [toldV]
  omega

/-- Bit p that bytes tell. -/
def bitS (s : ByteArray) (p : Nat) : Bool := (sb s (4 + p / 8)).testBit (p % 8)

theorem byte_bits (s : ByteArray) (j : Nat) : bsum (bitS s) (8 * j) 8 = sb s (4 + j) := by
  apply Nat.eq_of_testBit_eq
  intro q
  rw [bsum_bit]
  by_cases h : q < 8
  · simp only [h, decide_true, Bool.true_and]
    unfold bitS
    rw [show (8 * j + q) / 8 = j by omega, show (8 * j + q) % 8 = q by omega]
  · have l : sb s (4 + j) < 2 ^ q := Nat.lt_of_lt_of_le (sb_lt s (4 + j)) (show 256 ≤ 2 ^ q from Nat.pow_le_pow_right (n := 2) (by decide) (show 8 ≤ q by omega))
    rw [Nat.testBit_lt_two_pow l]
    simp [h]

/-- These bytes are a map's. -/
def okS (s : ByteArray) : Prop := toldT s ≤ 65536 ∧ s.size = bytesN (toldT s) ∧ ∀ p, toldT s ≤ p → bitS s p = false

def cutF (s : ByteArray) : Nat → Bool := fun p => decide (p < toldT s) && bitS s p

theorem list_bytes (s : ByteArray) : s.data.toList = (List.range s.size).map (fun i => UInt8.ofNat (sb s i)) := by
  apply List.ext_getElem?
  intro i
  by_cases h : i < s.size
  · have h' : i < s.data.toList.length := by rw [Array.length_toList]; exact h
    rw [List.getElem?_eq_getElem h']
    simp only [List.getElem?_map, List.getElem?_range h, Option.map_some]
    congr 1
    unfold sb
    rw [List.getD_eq_getElem?_getD, List.getElem?_eq_getElem h']
    simp
  · have h' : s.data.toList.length ≤ i := by rw [Array.length_toList]; exact Nat.le_of_not_lt h
    rw [List.getElem?_eq_none h', List.getElem?_eq_none (by simp; omega)]

theorem bytesS_list (n : Nat) (f : Nat → Bool) : (bytesS n f).data.toList = (List.range (bytesN n)).map (fun i => UInt8.ofNat (byteAt n f i)) := by
  unfold bytesS
  rw [strOfNums_data, List.map_map]
  rfl

theorem byteAt_lt (n : Nat) (f : Nat → Bool) (i : Nat) : byteAt n f i < 256 := by
  unfold byteAt
  split
  · exact Nat.mod_lt _ (by decide)
  · exact bsum_lt f _ 8

theorem bytes_same {n : Nat} {f : Nat → Bool} {s : ByteArray} (hs : s.size = bytesN n) : bytesS n f = s ↔ ∀ i, i < bytesN n → byteAt n f i = sb s i := by
  constructor
  · intro h i hi
    have e := congrArg (fun x : ByteArray => x.data.toList[i]?) h
    simp only [bytesS_list, list_bytes s, hs] at e
    simp only [List.getElem?_map, List.getElem?_range hi, Option.map_some] at e
    have e2 := congrArg UInt8.toNat (Option.some.inj e)
    simp only [UInt8.toNat_ofNat'] at e2
    have l1 := byteAt_lt n f i
    have l2 := sb_lt s i
    omega
  · intro h
    have e : (bytesS n f).data.toList = s.data.toList := by
      rw [bytesS_list, list_bytes s, hs]
      exact List.map_congr_left (fun i hi => by rw [h i (List.mem_range.1 hi)])
    cases hb : bytesS n f with
    | mk d =>
      cases s with
      | mk d' =>
        rw [hb] at e
        congr 1
        exact Array.ext' e

/-- The first four bytes are the size's. -/
theorem told_byte (s : ByteArray) (f : Nat → Bool) {i : Nat} (hi : i < 4) : byteAt (toldT s) f i = sb s i := by
  have h0 := sb_lt s 0
  have h1 := sb_lt s 1
  have h2 := sb_lt s 2
  have h3 := sb_lt s 3
  unfold byteAt
  rw [if_pos hi, toldT_eq]
  rcases (show i = 0 ∨ i = 1 ∨ i = 2 ∨ i = 3 by omega) with rfl | rfl | rfl | rfl
  all_goals simp
  all_goals omega

theorem bytes_cut {s : ByteArray} (hs : s.size = bytesN (toldT s)) : bytesS (toldT s) (cutF s) = s ↔ ∀ p, toldT s ≤ p → bitS s p = false := by
  rw [bytes_same hs]
  constructor
  · intro h p hp
    by_cases hf : 4 + p / 8 < bytesN (toldT s)
    · have e := h (4 + p / 8) hf
      unfold byteAt at e
      rw [if_neg (by omega), show 4 + p / 8 - 4 = p / 8 by omega] at e
      have e2 := congrArg (fun x => x.testBit (p % 8)) e
      simp only [bsum_bit] at e2
      rw [decide_eq_true (Nat.mod_lt p (by decide)), Bool.true_and, show 8 * (p / 8) + p % 8 = p by omega] at e2
      unfold bitS
      rw [← e2]
      unfold cutF
      rw [decide_eq_false (by omega), Bool.false_and]
    · unfold bitS
      rw [sb_far s _ (by omega)]
      simp
  · intro h i hi
    have hc : ∀ p, cutF s p = bitS s p := fun p => by
      unfold cutF
      by_cases hp : p < toldT s
      · rw [decide_eq_true hp, Bool.true_and]
      · rw [decide_eq_false hp, Bool.false_and, h p (by omega)]
    by_cases h4 : i < 4
    · exact told_byte s _ h4
    · unfold byteAt
      rw [if_neg h4, bsum_congr (fun j _ => hc _), byte_bits, show 4 + (i - 4) = i by omega]

theorem cut_ok {s : ByteArray} (h : okS s) : ∀ p, cutF s p = bitS s p := fun p => by
  unfold cutF
  by_cases hp : p < toldT s
  · rw [decide_eq_true hp, Bool.true_and]
  · rw [decide_eq_false hp, Bool.false_and, h.2.2 p (by omega)]

theorem bytes_back {s : ByteArray} (h : okS s) : bytesS (toldT s) (bitS s) = s := by
  have e := (bytes_cut h.2.1).2 h.2.2
  rw [show cutF s = bitS s from funext (cut_ok h)] at e
  exact e

/-- Which bits are ones behind the size. -/
theorem over_word {s : ByteArray} (hs : s.size = bytesN (toldT s)) (hT : toldT s % 64 ≠ 0) (x : Nat) (hx : ∀ j, j < 64 → x.testBit j = bitS s (64 * (toldT s / 64) + j)) (hxl : x < 18446744073709551616) : (x / 2 ^ (toldT s % 64) ≠ 0) ↔ ¬ ∀ p, toldT s ≤ p → bitS s p = false := by
  have key : (x / 2 ^ (toldT s % 64) = 0) ↔ ∀ p, toldT s ≤ p → bitS s p = false := by
    constructor
    · intro h p hp
      by_cases hq : p < 64 * (toldT s / 64) + 64
      · have e := hx (p - 64 * (toldT s / 64)) (by omega)
        rw [show 64 * (toldT s / 64) + (p - 64 * (toldT s / 64)) = p by omega] at e
        rw [← e]
        have e2 := congrArg (fun y => y.testBit (p - toldT s)) h
        simp only [Nat.testBit_div_two_pow, Nat.zero_testBit] at e2
        rw [show p - toldT s + toldT s % 64 = p - 64 * (toldT s / 64) by omega] at e2
        exact e2
      · unfold bitS
        rw [sb_far s _ (by rw [hs]; unfold bytesN; omega)]
        simp
    · intro h
      apply Nat.eq_of_testBit_eq
      intro i
      rw [Nat.testBit_div_two_pow, Nat.zero_testBit]
      by_cases hi : i + toldT s % 64 < 64
      · rw [hx _ hi]
        exact h _ (by omega)
      · exact Nat.testBit_lt_two_pow (Nat.lt_of_lt_of_le hxl (Nat.pow_le_pow_right (n := 2) (by decide) (show 64 ≤ i + toldT s % 64 by omega)))
  rw [ne_eq, key]

end Go.Proofs.YtighdocmncbdnaaGreatDoor

namespace Go.Proofs.YtighdocmncbdnaaGreatDoor
open Go.ChangeShapes Go.WideShapes Go.ChangeAt Go.RowKit
set_option linter.unusedVariables false
set_option linter.unusedSimpArgs false

theorem told_or {x c : Nat} (hx : x < 16777216) (hc : c < 256) : bits .or .u32 ((x : Int) * 256) (c : Int) = ((x * 256 + c : Nat) : Int) := by
  have e := u32_or_nat (x * 256) c (by omega) (by omega)
  rw [show ((x * 256 : Nat) : Int) = (x : Int) * 256 by omega] at e
  rw [e]
  congr 1
  have := Nat.two_pow_add_eq_or_of_lt (i := 8) (b := c) hc x
  rw [Nat.mul_comm x 256]
  exact this.symm

set_option maxHeartbeats 1000000 in
theorem told_c (s : ByteArray) (hs : 4 ≤ s.size) (w : World) : Calls Tryz.prog 124 #[.string s] w fun e w' => e = .returned (.int .u32 (toldT s : Nat)) ∧ w' = w := by
  go_enter Tryz.func124, Tryz.ntmps124
  go_wp2_with fail
  go_loop [3, 5] (fun z t => ∃ (k x : Nat), k ≤ 4 ∧ t = .int .i64 k ∧ z = .int .u32 x ∧ Hid (x = toldV s k)) (fun _ t => 4 - (intOf t).toNat)
  case atStart => exact ⟨0, 0, by omega, rfl, rfl, rfl⟩
  case round =>
    obtain ⟨k, x, hk, rfl, rfl, hx⟩ := hrel
    by_cases hlt : k < 4
    · have hks : (k : Int) < (s.size : Int) := by omega
      have hk4 : (k : Int) < 4 := by omega
      have hxl : x < 16777216 := by
        rw [hx.out]
        have := toldV_lt s k
        have p : 256 ^ k ≤ 256 ^ 3 := Nat.pow_le_pow_right (by decide) (by omega)
        rw [show (256 : Nat) ^ 3 = 16777216 by decide] at p
        omega
      obtain ⟨c, hc⟩ : ∃ c, sb s k = c := ⟨_, rfl⟩
      have hcl : c < 256 := by rw [← hc]; exact sb_lt s k
      have bg : (s[k].toNat : Int) = (c : Int) := by rw [sb_get s k (by omega), hc]
      have ho := told_or hxl hcl
      have hx2 : Hid (x * 256 + c = toldV s (k + 1)) := by show _ = _; rw [hx.out, ← hc]; rfl
      clear hx hc
      go_wp2
      go_round
      case measure => simp [intOf]; omega
      case rel => exact ⟨k + 1, x * 256 + c, by omega, by go_num, by go_num, hx2⟩
    · obtain rfl : k = 4 := by omega
      have hx' : Hid (x = toldT s) := hx
      clear hx
      go_wp2
      go_ret
      exact ⟨by rw [← hx'.out]; rfl, rfl⟩

/-- What hasOnesBehind reads. -/
def OX (a g k i x : Nat) (W : World) : Prop := W.cell? ⟨a, 1, none⟩ = some (.slice (some ⟨g, 0, none⟩) k k) ∧ W.cell? ⟨g, i, none⟩ = some (.int .u64 x)

def OZ (a n : Nat) (W : World) : Prop := W.cell? ⟨a, 0, none⟩ = some (.int .i64 n)

set_option maxHeartbeats 1000000 in
theorem ones_no (a n : Nat) (W : World) (hn : n ≤ 65536) (h0 : n % 64 = 0) (c0 : W.cell? ⟨a, 0, none⟩ = some (.int .i64 n)) :
    Calls Tryz.prog 125 #[.pointer (some ⟨a, 0, none⟩)] W fun e W' => e = .returned (.bool false) ∧ Below W.heap.size W W' := by
  have e0 : (n : Int) % 64 = 0 := by omega
  go_enter Tryz.func125, Tryz.ntmps125
  go_upto_region 2 with fail
  refine wp_region_held_drew (S := (OZ a n)) (by kernel_rfl) ?hS100 (fun hHeld => ?rest100)
  case hS100 => (exact c0)
  refine wpAnyH_take (i := 0) (oi := _) (v := ?v101) (List.getElem?_toArray.trans rfl) (by kernel_rfl) (by kernel_rfl) (by kernel_rfl) (fun _ _ _ h => h) (Or.inl ⟨by rfl, ?hy101⟩) (by assumption) ?rest101
  case hy101 => (intro wq hSw; (try simp only [OZ] at hSw); go_simp; try with_reducible rfl)
  try simp only [Act.put, List.setIfInBounds_toArray, List.set_cons_zero, List.set_cons_succ]
  refine wpAnyH_take (i := 1) (oi := _) (v := ?v102) (List.getElem?_toArray.trans rfl) (by kernel_rfl) (by kernel_rfl) (by kernel_rfl) (fun _ _ _ h => h) (Or.inl ⟨by rfl, ?hy102⟩) (by assumption) ?rest102
  case hy102 => (intro wq hSw; (try simp only [OZ] at hSw); go_simp; try with_reducible rfl)
  try simp only [Act.put, List.setIfInBounds_toArray, List.set_cons_zero, List.set_cons_succ]
  refine wpAnyH_take (i := 2) (oi := _) (v := ?v103) (List.getElem?_toArray.trans rfl) (by kernel_rfl) (by kernel_rfl) (by kernel_rfl) (fun _ _ _ h => h) (Or.inl ⟨by rfl, ?hy103⟩) (by assumption) ?rest103
  case hy103 => (intro wq hSw; (try simp only [OZ] at hSw); go_simp; try with_reducible rfl)
  try simp only [Act.put, List.setIfInBounds_toArray, List.set_cons_zero, List.set_cons_succ]
  refine wpAnyH_take (i := 3) (oi := _) (v := undef) (List.getElem?_toArray.trans rfl) (by kernel_rfl) (by kernel_rfl) (by kernel_rfl) (fun _ _ _ h => h) (Or.inr ⟨by rfl, rfl⟩) (by assumption) ?rest104
  try simp only [Act.put, List.setIfInBounds_toArray, List.set_cons_zero, List.set_cons_succ]
  refine wpAnyH_take (i := 4) (oi := _) (v := undef) (List.getElem?_toArray.trans rfl) (by kernel_rfl) (by kernel_rfl) (by kernel_rfl) (fun _ _ _ h => h) (Or.inr ⟨by rfl, rfl⟩) (by assumption) ?rest105
  try simp only [Act.put, List.setIfInBounds_toArray, List.set_cons_zero, List.set_cons_succ]
  refine wpAnyH_take (i := 5) (oi := _) (v := undef) (List.getElem?_toArray.trans rfl) (by kernel_rfl) (by kernel_rfl) (by kernel_rfl) (fun _ _ _ h => h) (Or.inr ⟨by rfl, rfl⟩) (by assumption) ?rest106
  try simp only [Act.put, List.setIfInBounds_toArray, List.set_cons_zero, List.set_cons_succ]
  refine wpAnyH_take (i := 6) (oi := _) (v := undef) (List.getElem?_toArray.trans rfl) (by kernel_rfl) (by kernel_rfl) (by kernel_rfl) (fun _ _ _ h => h) (Or.inr ⟨by rfl, rfl⟩) (by assumption) ?rest107
  try simp only [Act.put, List.setIfInBounds_toArray, List.set_cons_zero, List.set_cons_succ]
  refine wpAnyH_take (i := 7) (oi := _) (v := undef) (List.getElem?_toArray.trans rfl) (by kernel_rfl) (by kernel_rfl) (by kernel_rfl) (fun _ _ _ h => h) (Or.inr ⟨by rfl, rfl⟩) (by assumption) ?rest108
  try simp only [Act.put, List.setIfInBounds_toArray, List.set_cons_zero, List.set_cons_succ]
  refine wpAnyH_take (i := 8) (oi := _) (v := undef) (List.getElem?_toArray.trans rfl) (by kernel_rfl) (by kernel_rfl) (by kernel_rfl) (fun _ _ _ h => h) (Or.inr ⟨by rfl, rfl⟩) (by assumption) ?rest109
  try simp only [Act.put, List.setIfInBounds_toArray, List.set_cons_zero, List.set_cons_succ]
  refine wpAnyH_take (i := 9) (oi := _) (v := undef) (List.getElem?_toArray.trans rfl) (by kernel_rfl) (by kernel_rfl) (by kernel_rfl) (fun _ _ _ h => h) (Or.inr ⟨by rfl, rfl⟩) (by assumption) ?rest110
  try simp only [Act.put, List.setIfInBounds_toArray, List.set_cons_zero, List.set_cons_succ]
  refine wpAnyH_take (i := 10) (oi := _) (v := undef) (List.getElem?_toArray.trans rfl) (by kernel_rfl) (by kernel_rfl) (by kernel_rfl) (fun _ _ _ h => h) (Or.inr ⟨by rfl, rfl⟩) (by assumption) ?rest111
  try simp only [Act.put, List.setIfInBounds_toArray, List.set_cons_zero, List.set_cons_succ]
  refine wpAnyH_take (i := 11) (oi := _) (v := undef) (List.getElem?_toArray.trans rfl) (by kernel_rfl) (by kernel_rfl) (by kernel_rfl) (fun _ _ _ h => h) (Or.inr ⟨by rfl, rfl⟩) (by assumption) ?rest112
  try simp only [Act.put, List.setIfInBounds_toArray, List.set_cons_zero, List.set_cons_succ]
  refine wpAnyH_take (i := 12) (oi := _) (v := undef) (List.getElem?_toArray.trans rfl) (by kernel_rfl) (by kernel_rfl) (by kernel_rfl) (fun _ _ _ h => h) (Or.inr ⟨by rfl, rfl⟩) (by assumption) ?rest113
  try simp only [Act.put, List.setIfInBounds_toArray, List.set_cons_zero, List.set_cons_succ]
  refine wpAnyH_take (i := 13) (oi := _) (v := undef) (List.getElem?_toArray.trans rfl) (by kernel_rfl) (by kernel_rfl) (by kernel_rfl) (fun _ _ _ h => h) (Or.inr ⟨by rfl, rfl⟩) (by assumption) ?rest114
  try simp only [Act.put, List.setIfInBounds_toArray, List.set_cons_zero, List.set_cons_succ]
  refine wpAnyH_take (i := 14) (oi := _) (v := undef) (List.getElem?_toArray.trans rfl) (by kernel_rfl) (by kernel_rfl) (by kernel_rfl) (fun _ _ _ h => h) (Or.inr ⟨by rfl, rfl⟩) (by assumption) ?rest115
  try simp only [Act.put, List.setIfInBounds_toArray, List.set_cons_zero, List.set_cons_succ]
  refine wpAnyH_take (i := 15) (oi := _) (v := undef) (List.getElem?_toArray.trans rfl) (by kernel_rfl) (by kernel_rfl) (by kernel_rfl) (fun _ _ _ h => h) (Or.inr ⟨by rfl, rfl⟩) (by assumption) ?rest116
  try simp only [Act.put, List.setIfInBounds_toArray, List.set_cons_zero, List.set_cons_succ]
  refine wpAnyH_take (i := 16) (oi := _) (v := undef) (List.getElem?_toArray.trans rfl) (by kernel_rfl) (by kernel_rfl) (by kernel_rfl) (fun _ _ _ h => h) (Or.inr ⟨by rfl, rfl⟩) (by assumption) ?rest117
  try simp only [Act.put, List.setIfInBounds_toArray, List.set_cons_zero, List.set_cons_succ]
  refine wpAnyH_take (i := 17) (oi := _) (v := undef) (List.getElem?_toArray.trans rfl) (by kernel_rfl) (by kernel_rfl) (by kernel_rfl) (fun _ _ _ h => h) (Or.inr ⟨by rfl, rfl⟩) (by assumption) ?rest118
  try simp only [Act.put, List.setIfInBounds_toArray, List.set_cons_zero, List.set_cons_succ]
  refine wpAnyH_take (i := 18) (oi := _) (v := ?v119) (List.getElem?_toArray.trans rfl) (by kernel_rfl) (by kernel_rfl) (by kernel_rfl) (fun _ _ _ h => h) (Or.inl ⟨by rfl, ?hy119⟩) (by assumption) ?rest119
  case hy119 => (intro wq hSw; (try simp only [OZ] at hSw); go_simp; try with_reducible rfl)
  try simp only [Act.put, List.setIfInBounds_toArray, List.set_cons_zero, List.set_cons_succ]
  refine wpAnyH_take (i := 19) (oi := _) (v := ?v120) (List.getElem?_toArray.trans rfl) (by kernel_rfl) (by kernel_rfl) (by kernel_rfl) (fun _ _ _ h => h) (Or.inl ⟨by rfl, ?hy120⟩) (by assumption) ?rest120
  case hy120 => (intro wq hSw; (try simp only [OZ] at hSw); go_simp; try with_reducible rfl)
  try simp only [Act.put, List.setIfInBounds_toArray, List.set_cons_zero, List.set_cons_succ]
  refine wpAnyH_done (by kernel_rfl) ?fin100 _
  go_wp2_with fail
  go_ret
  exact ⟨rfl, (Below.refl _ _).drew⟩

set_option maxHeartbeats 1000000 in
theorem ones_yes (a g n m x : Nat) (b : Bool) (W : World) (hn : n ≤ 65536) (h0 : n % 64 ≠ 0) (hk : m < 2000) (c0 : W.cell? ⟨a, 0, none⟩ = some (.int .i64 n)) (c1 : W.cell? ⟨a, 1, none⟩ = some (.slice (some ⟨g, 0, none⟩) (m + 1) (m + 1))) (c2 : W.cell? ⟨g, m, none⟩ = some (.int .u64 x)) (hb : ((x : Int) / 2 ^ (n % 64) != 0) = b) :
    Calls Tryz.prog 125 #[.pointer (some ⟨a, 0, none⟩)] W fun e W' => e = .returned (.bool b) ∧ Below W.heap.size W W' := by
  have e0 : ((n : Int) % 64 != 0) = true := by simp; omega
  have wm : IntKind.i64.wrap (m : Int) = (m : Int) := by rw [IntKind.wrap_i64]; omega
  have wm1 : (m : Int) < (m : Int) + 1 := by omega
  have HB := hide hb
  clear h0 hb
  go_enter Tryz.func125, Tryz.ntmps125
  go_upto_region 2 with fail
  refine wp_region_held_drew (S := (OX a g (m + 1) m x)) (by kernel_rfl) ?hS200 (fun hHeld => ?rest200)
  case hS200 => (exact ⟨c1, c2⟩)
  refine wpAnyH_take (i := 0) (oi := _) (v := ?v201) (List.getElem?_toArray.trans rfl) (by kernel_rfl) (by kernel_rfl) (by kernel_rfl) (fun _ _ _ h => h) (Or.inl ⟨by rfl, ?hy201⟩) (by assumption) ?rest201
  case hy201 => (intro wq hSw; (try simp only [OX] at hSw); go_simp; try with_reducible rfl)
  try simp only [Act.put, List.setIfInBounds_toArray, List.set_cons_zero, List.set_cons_succ]
  refine wpAnyH_take (i := 1) (oi := _) (v := ?v202) (List.getElem?_toArray.trans rfl) (by kernel_rfl) (by kernel_rfl) (by kernel_rfl) (fun _ _ _ h => h) (Or.inl ⟨by rfl, ?hy202⟩) (by assumption) ?rest202
  case hy202 => (intro wq hSw; (try simp only [OX] at hSw); go_simp; try with_reducible rfl)
  try simp only [Act.put, List.setIfInBounds_toArray, List.set_cons_zero, List.set_cons_succ]
  refine wpAnyH_take (i := 2) (oi := _) (v := ?v203) (List.getElem?_toArray.trans rfl) (by kernel_rfl) (by kernel_rfl) (by kernel_rfl) (fun _ _ _ h => h) (Or.inl ⟨by rfl, ?hy203⟩) (by assumption) ?rest203
  case hy203 => (intro wq hSw; (try simp only [OX] at hSw); go_simp; try with_reducible rfl)
  try simp only [Act.put, List.setIfInBounds_toArray, List.set_cons_zero, List.set_cons_succ]
  refine wpAnyH_take (i := 3) (oi := _) (v := ?v204) (List.getElem?_toArray.trans rfl) (by kernel_rfl) (by kernel_rfl) (by kernel_rfl) (fun _ _ _ h => h) (Or.inl ⟨by rfl, ?hy204⟩) (by assumption) ?rest204
  case hy204 => (intro wq hSw; (try simp only [OX] at hSw); go_simp; try with_reducible rfl)
  try simp only [Act.put, List.setIfInBounds_toArray, List.set_cons_zero, List.set_cons_succ]
  refine wpAnyH_take (i := 4) (oi := _) (v := ?v205) (List.getElem?_toArray.trans rfl) (by kernel_rfl) (by kernel_rfl) (by kernel_rfl) (fun _ _ _ h => h) (Or.inl ⟨by rfl, ?hy205⟩) (by assumption) ?rest205
  case hy205 => (intro wq hSw; (try simp only [OX] at hSw); go_simp; try with_reducible rfl)
  try simp only [Act.put, List.setIfInBounds_toArray, List.set_cons_zero, List.set_cons_succ]
  refine wpAnyH_take (i := 5) (oi := _) (v := ?v206) (List.getElem?_toArray.trans rfl) (by kernel_rfl) (by kernel_rfl) (by kernel_rfl) (fun _ _ _ h => h) (Or.inl ⟨by rfl, ?hy206⟩) (by assumption) ?rest206
  case hy206 => (intro wq hSw; (try simp only [OX] at hSw); go_simp; try with_reducible rfl)
  try simp only [Act.put, List.setIfInBounds_toArray, List.set_cons_zero, List.set_cons_succ]
  refine wpAnyH_take (i := 6) (oi := _) (v := ?v207) (List.getElem?_toArray.trans rfl) (by kernel_rfl) (by kernel_rfl) (by kernel_rfl) (fun _ _ _ h => h) (Or.inl ⟨by rfl, ?hy207⟩) (by assumption) ?rest207
  case hy207 => (intro wq hSw; (try simp only [OX] at hSw); go_simp; try with_reducible rfl)
  try simp only [Act.put, List.setIfInBounds_toArray, List.set_cons_zero, List.set_cons_succ]
  refine wpAnyH_take (i := 7) (oi := _) (v := ?v208) (List.getElem?_toArray.trans rfl) (by kernel_rfl) (by kernel_rfl) (by kernel_rfl) (fun _ _ _ h => h) (Or.inl ⟨by rfl, ?hy208⟩) (by assumption) ?rest208
  case hy208 => (intro wq hSw; (try simp only [OX] at hSw); go_simp; try with_reducible rfl)
  try simp only [Act.put, List.setIfInBounds_toArray, List.set_cons_zero, List.set_cons_succ]
  refine wpAnyH_take (i := 8) (oi := _) (v := ?v209) (List.getElem?_toArray.trans rfl) (by kernel_rfl) (by kernel_rfl) (by kernel_rfl) (fun _ _ _ h => h) (Or.inl ⟨by rfl, ?hy209⟩) (by assumption) ?rest209
  case hy209 => (intro wq hSw; (try simp only [OX] at hSw); go_simp; try with_reducible rfl)
  try simp only [Act.put, List.setIfInBounds_toArray, List.set_cons_zero, List.set_cons_succ]
  refine wpAnyH_take (i := 9) (oi := _) (v := ?v210) (List.getElem?_toArray.trans rfl) (by kernel_rfl) (by kernel_rfl) (by kernel_rfl) (fun _ _ _ h => h) (Or.inl ⟨by rfl, ?hy210⟩) (by assumption) ?rest210
  case hy210 => (intro wq hSw; (try simp only [OX] at hSw); go_simp; try with_reducible rfl)
  try simp only [Act.put, List.setIfInBounds_toArray, List.set_cons_zero, List.set_cons_succ]
  refine wpAnyH_take (i := 10) (oi := _) (v := ?v211) (List.getElem?_toArray.trans rfl) (by kernel_rfl) (by kernel_rfl) (by kernel_rfl) (fun _ _ _ h => h) (Or.inl ⟨by rfl, ?hy211⟩) (by assumption) ?rest211
  case hy211 => (intro wq hSw; (try simp only [OX] at hSw); go_simp; try with_reducible rfl)
  try simp only [Act.put, List.setIfInBounds_toArray, List.set_cons_zero, List.set_cons_succ]
  refine wpAnyH_take (i := 11) (oi := _) (v := ?v212) (List.getElem?_toArray.trans rfl) (by kernel_rfl) (by kernel_rfl) (by kernel_rfl) (fun _ _ _ h => h) (Or.inl ⟨by rfl, ?hy212⟩) (by assumption) ?rest212
  case hy212 => (intro wq hSw; (try simp only [OX] at hSw); go_simp; try with_reducible rfl)
  try simp only [Act.put, List.setIfInBounds_toArray, List.set_cons_zero, List.set_cons_succ]
  refine wpAnyH_take (i := 12) (oi := _) (v := ?v213) (List.getElem?_toArray.trans rfl) (by kernel_rfl) (by kernel_rfl) (by kernel_rfl) (fun _ _ _ h => h) (Or.inl ⟨by rfl, ?hy213⟩) (by assumption) ?rest213
  case hy213 => (intro wq hSw; (try simp only [OX] at hSw); go_simp; try with_reducible rfl)
  try simp only [Act.put, List.setIfInBounds_toArray, List.set_cons_zero, List.set_cons_succ]
  refine wpAnyH_take (i := 13) (oi := _) (v := ?v214) (List.getElem?_toArray.trans rfl) (by kernel_rfl) (by kernel_rfl) (by kernel_rfl) (fun _ _ _ h => h) (Or.inl ⟨by rfl, ?hy214⟩) (by assumption) ?rest214
  case hy214 => (intro wq hSw; (try simp only [OX] at hSw); go_simp; try with_reducible rfl)
  try simp only [Act.put, List.setIfInBounds_toArray, List.set_cons_zero, List.set_cons_succ]
  refine wpAnyH_take (i := 14) (oi := _) (v := ?v215) (List.getElem?_toArray.trans rfl) (by kernel_rfl) (by kernel_rfl) (by kernel_rfl) (fun _ _ _ h => h) (Or.inl ⟨by rfl, ?hy215⟩) (by assumption) ?rest215
  case hy215 => (intro wq hSw; (try simp only [OX] at hSw); go_simp; try with_reducible rfl)
  try simp only [Act.put, List.setIfInBounds_toArray, List.set_cons_zero, List.set_cons_succ]
  refine wpAnyH_take (i := 15) (oi := _) (v := ?v216) (List.getElem?_toArray.trans rfl) (by kernel_rfl) (by kernel_rfl) (by kernel_rfl) (fun _ _ _ h => h) (Or.inl ⟨by rfl, ?hy216⟩) (by assumption) ?rest216
  case hy216 => (intro wq hSw; (try simp only [OX] at hSw); go_simp; try with_reducible rfl)
  try simp only [Act.put, List.setIfInBounds_toArray, List.set_cons_zero, List.set_cons_succ]
  refine wpAnyH_take (i := 16) (oi := _) (v := ?v217) (List.getElem?_toArray.trans rfl) (by kernel_rfl) (by kernel_rfl) (by kernel_rfl) (fun _ _ _ h => h) (Or.inl ⟨by rfl, ?hy217⟩) (by assumption) ?rest217
  case hy217 => (intro wq hSw; (try simp only [OX] at hSw); go_simp; try with_reducible rfl)
  try simp only [Act.put, List.setIfInBounds_toArray, List.set_cons_zero, List.set_cons_succ]
  refine wpAnyH_take (i := 17) (oi := _) (v := ?v218) (List.getElem?_toArray.trans rfl) (by kernel_rfl) (by kernel_rfl) (by kernel_rfl) (fun _ _ _ h => h) (Or.inl ⟨by rfl, ?hy218⟩) (by assumption) ?rest218
  case hy218 => (intro wq hSw; (try simp only [OX] at hSw); go_simp; try with_reducible rfl)
  try simp only [Act.put, List.setIfInBounds_toArray, List.set_cons_zero, List.set_cons_succ]
  refine wpAnyH_take (i := 18) (oi := _) (v := ?v219) (List.getElem?_toArray.trans rfl) (by kernel_rfl) (by kernel_rfl) (by kernel_rfl) (fun _ _ _ h => h) (Or.inl ⟨by rfl, ?hy219⟩) (by assumption) ?rest219
  case hy219 => (intro wq hSw; (try simp only [OX] at hSw); go_simp; try with_reducible rfl)
  try simp only [Act.put, List.setIfInBounds_toArray, List.set_cons_zero, List.set_cons_succ]
  refine wpAnyH_take (i := 19) (oi := _) (v := ?v220) (List.getElem?_toArray.trans rfl) (by kernel_rfl) (by kernel_rfl) (by kernel_rfl) (fun _ _ _ h => h) (Or.inl ⟨by rfl, ?hy220⟩) (by assumption) ?rest220
  case hy220 => (intro wq hSw; (try simp only [OX] at hSw); go_simp; try with_reducible rfl)
  try simp only [Act.put, List.setIfInBounds_toArray, List.set_cons_zero, List.set_cons_succ]
  refine wpAnyH_done (by kernel_rfl) ?fin200 _
  go_wp2_with fail
  go_ret
  refine ⟨?_, (Below.refl _ _).drew⟩
  show Ending.returned (Value.bool ((x : Int) / 2 ^ ((n : Int) % 64).toNat != 0)) = _
  rw [← HB.out, show ((n : Int) % 64).toNat = n % 64 by omega]

end Go.Proofs.YtighdocmncbdnaaGreatDoor

namespace Go.Proofs.YtighdocmncbdnaaGreatDoor
open Go.ChangeShapes Go.WideShapes Go.ChangeAt Go.RowKit
set_option linter.unusedVariables false
set_option linter.unusedSimpArgs false

theorem ofb_short (s : ByteArray) (hs : s.size < 4) (w : World) : Calls Tryz.prog 84 #[.string s] w fun e w' => e = .returned (.tuple #[.pointer none, .int .i64 4]) ∧ Below w.heap.size w w' := by
  have h1 : (s.size : Int) < 4 := by omega
  go_enter Tryz.func84, Tryz.ntmps84
  go_wp2_with fail
  go_ret2
  exact ⟨rfl, by repeat (first | with_reducible exact Below.refl _ _ | with_reducible refine Below.drew ?_ | with_reducible refine Below.alloc ?_ (by first | omega | (simp <;> omega)) _ | with_reducible refine Below.setCell ?_ (by first | omega | (simp <;> omega)) _)⟩

set_option maxHeartbeats 1000000 in
theorem ofb_bad (s : ByteArray) (hs : 4 ≤ s.size) (hz : s.size ≤ 9000) (hb : 65536 < toldT s ∨ (toldT s ≤ 65536 ∧ s.size ≠ bytesN (toldT s))) (w : World) : Calls Tryz.prog 84 #[.string s] w fun e w' => e = .returned (.tuple #[.pointer none, .int .i64 4]) ∧ Below w.heap.size w w' := by
  have h1 : ¬ (s.size : Int) < 4 := by omega
  have TC := hide (told_c s hs)
  have tl : toldT s < 4294967296 := toldV_lt s 4
  obtain ⟨T, hT⟩ : ∃ T, toldT s = T := ⟨_, rfl⟩
  rw [hT] at TC tl hb
  clear hT hs
  rcases hb with hb | ⟨hb, hne⟩
  · have h2 : (T : Int) > 65536 := by omega
    go_enter Tryz.func84, Tryz.ntmps84
    go_wp2_with fail
    refine (TC.out _).mono ?_
    rintro e w1 ⟨rfl, rfl⟩
    go_wp2_with fail
    go_ret2
    exact ⟨rfl, by repeat (first | with_reducible exact Below.refl _ _ | with_reducible refine Below.drew ?_ | with_reducible refine Below.alloc ?_ (by first | omega | (simp <;> omega)) _ | with_reducible refine Below.setCell ?_ (by first | omega | (simp <;> omega)) _)⟩
  · have h2 : ¬ (T : Int) > 65536 := by omega
    have BF := hide (fun w => bytesFor_c T hb w)
    unfold bytesN at hne
    obtain ⟨nb, hnb⟩ : ∃ nb, (T + 7) / 8 = nb := ⟨_, rfl⟩
    rw [hnb] at hne BF
    have hnl : nb ≤ 8192 := by omega
    have h3 : ((s.size : Int) != 4 + (nb : Int)) = true := by simp; omega
    clear hnb hne
    go_enter Tryz.func84, Tryz.ntmps84
    go_wp2_with fail
    refine (TC.out _).mono ?_
    rintro e w1 ⟨rfl, rfl⟩
    go_wp2_with fail
    refine (BF.out _).mono ?_
    rintro e w1 ⟨rfl, rfl⟩
    go_wp2_with fail
    go_ret2
    exact ⟨rfl, by repeat (first | with_reducible exact Below.refl _ _ | with_reducible refine Below.drew ?_ | with_reducible refine Below.alloc ?_ (by first | omega | (simp <;> omega)) _ | with_reducible refine Below.setCell ?_ (by first | omega | (simp <;> omega)) _)⟩

/-- What the loop has read. -/
def ReadI (s : ByteArray) (a g : Nat) (k : Nat) (W : World) : Prop := ∃ ws, MapAt W a g (toldT s) ws ∧ ∀ p, bitL ws p = (decide (p < 8 * k) && bitS s p)

theorem read_bits {s : ByteArray} {ws : List Nat} {k : Nat} (hk : k / 8 < ws.length) (hb : ∀ p, bitL ws p = (decide (p < 8 * k) && bitS s p)) : ∀ p, bitL (ws.set (k / 8) (ws.getD (k / 8) 0 ||| 2 ^ (8 * (k % 8)) * sb s (4 + k))) p = (decide (p < 8 * (k + 1)) && bitS s p) := by
  intro p
  rw [bitL_set hk]
  by_cases hp : p / 64 = k / 8
  · rw [if_pos hp, Nat.testBit_or, Nat.testBit_two_pow_mul]
    have e := hb p
    unfold bitL at e
    rw [hp] at e
    rw [e]
    have cl := sb_lt s (4 + k)
    by_cases h1 : p < 8 * k
    · have h2 : ¬ 8 * (k % 8) ≤ p % 64 := by omega
      rw [decide_eq_true h1, decide_eq_true (show p < 8 * (k + 1) by omega), decide_eq_false h2]
      simp
    · by_cases h3 : p < 8 * (k + 1)
      · have h2 : 8 * (k % 8) ≤ p % 64 := by omega
        rw [decide_eq_false h1, decide_eq_true h3, decide_eq_true h2]
        unfold bitS
        rw [show p / 8 = k by omega, show p % 64 - 8 * (k % 8) = p % 8 by omega]
        simp
      · rw [decide_eq_false h1, decide_eq_false h3, Bool.false_and, Bool.false_or]
        by_cases h2 : 8 * (k % 8) ≤ p % 64
        · rw [Nat.testBit_lt_two_pow (Nat.lt_of_lt_of_le cl (Nat.pow_le_pow_right (n := 2) (by decide) (show 8 ≤ p % 64 - 8 * (k % 8) by omega)))]
          simp
        · rw [decide_eq_false h2]; simp
  · rw [if_neg hp, hb p]
    by_cases h1 : p < 8 * k
    · rw [decide_eq_true h1, decide_eq_true (show p < 8 * (k + 1) by omega)]
    · rw [decide_eq_false h1, decide_eq_false (show ¬ p < 8 * (k + 1) by omega)]

def OH (a g k : Nat) (W : World) : Prop := W.cell? ⟨a, 1, none⟩ = some (.slice (some ⟨g, 0, none⟩) k k)

theorem read_or {x c r : Nat} (hx : x < 18446744073709551616) (hc : c < 256) (hr : r < 8) : IntKind.u64.wrap ((c : Int) * 2 ^ (8 * r)) = ((2 ^ (8 * r) * c : Nat) : Int) ∧ 2 ^ (8 * r) * c < 18446744073709551616 ∧ bits .or .u64 (x : Int) ((2 ^ (8 * r) * c : Nat) : Int) = ((x ||| 2 ^ (8 * r) * c : Nat) : Int) ∧ x ||| 2 ^ (8 * r) * c < 18446744073709551616 := by
  have p : 2 ^ (8 * r) ≤ 2 ^ 56 := Nat.pow_le_pow_right (by decide) (by omega)
  have l : 2 ^ (8 * r) * c < 18446744073709551616 := by
    calc 2 ^ (8 * r) * c ≤ 2 ^ 56 * 255 := Nat.mul_le_mul p (by omega)
      _ < 18446744073709551616 := by decide
  have e : (2 : Int) ^ (8 * r) = ((2 ^ (8 * r) : Nat) : Int) := by rw [Int.natCast_pow]; rfl
  refine ⟨?_, l, bits_or_u64_nat _ _ hx l, Nat.or_lt_two_pow (n := 64) hx l⟩
  rw [e]
  exact u64_nat l (by rw [Int.natCast_mul, Int.mul_comm])

end Go.Proofs.YtighdocmncbdnaaGreatDoor
