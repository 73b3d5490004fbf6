/-
  The reference's Filled.
-/
import Derived.Test.YtbecaepagachpaaGreatDoorRef3b
import Derived.Test.YtbecaepagachpaaGreatDoorPfx4
namespace Go.Proofs.YtbecaepagachpaaGreatDoor
open Go.ChangeShapes Go.WideShapes Go.ChangeAt Go.RowKit
set_option linter.unusedVariables false
set_option linter.unusedSimpArgs false

/-- All bits below the k-th alike. -/
def fillN (a k t : Nat) : Nat := a / 2 ^ k * 2 ^ k + t * (2 ^ k - 1)

theorem bitN_test (a j : Nat) : bitN a j = (a.testBit j).toNat := by
  unfold bitN
  rw [Nat.testBit, Nat.one_and_eq_mod_two, Nat.shiftRight_eq_div_pow]
  rcases Nat.mod_two_eq_zero_or_one (a / 2 ^ j) with h | h <;> simp [h]

theorem bitN_fill (a k t j : Nat) (ht : t ≤ 1) : bitN (fillN a k t) j = if j < k then t else bitN a j := by
  have hr : t * (2 ^ k - 1) < 2 ^ k := by
    have p := pow_pos2 k
    have : t = 0 ∨ t = 1 := by omega
    rcases this with rfl | rfl <;> omega
  unfold fillN
  rw [Nat.mul_comm (a / 2 ^ k), bitN_test, Nat.testBit_two_pow_mul_add _ hr]
  by_cases h : j < k
  · rw [if_pos h, if_pos h]
    have : t = 0 ∨ t = 1 := by omega
    rcases this with rfl | rfl
    · simp
    · rw [Nat.one_mul, Nat.testBit_two_pow_sub_one]; simp [h]
  · rw [if_neg h, if_neg h, Nat.testBit_div_two_pow, bitN_test]
    congr 2
    omega

theorem fillN_lt {a k t W : Nat} (ht : t ≤ 1) (hk : k ≤ W) (ha : a < 2 ^ W) : fillN a k t < 2 ^ W := by
  have p := pow_pos2 k
  have e : 2 ^ W = 2 ^ (W - k) * 2 ^ k := by rw [← Nat.pow_add]; congr 1; omega
  have l : a / 2 ^ k < 2 ^ (W - k) := by rw [Nat.div_lt_iff_lt_mul p, ← e]; exact ha
  have m : (a / 2 ^ k + 1) * 2 ^ k ≤ 2 ^ (W - k) * 2 ^ k := Nat.mul_le_mul_right _ l
  rw [Nat.add_mul, Nat.one_mul] at m
  unfold fillN
  rw [e]
  have : t = 0 ∨ t = 1 := by omega
  rcases this with rfl | rfl <;> omega

theorem Rw.congr {w : World} {g n : Nat} {f f' : Nat → Nat} (x : Rw w g n f) (h : ∀ i, i < n → f i = f' i) : Rw w g n f' :=
  ⟨x.1, fun i hi => by rw [x.2.1 i hi, h i hi], x.2.2⟩

theorem Rw.put {w : World} {g n m t : Nat} {f : Nat → Nat} (x : Rw w g n f) (hm : m < n) : Rw (w.setCell ⟨g, m, none⟩ (.int .i64 ((t : Nat) : Int))) g n (fun i => if i = m then t else f i) := by
  have c := x.2.1 m hm
  refine ⟨by simpa using x.1, fun i hi => ?_, fun i => ?_⟩
  · by_cases e : i = m
    · subst e
      rw [World.cell?_setCell_same' _ _ _ (by rw [c]; rfl)]
      simp
    · rw [World.cell?_setCell_other _ _ _ _ (by simp <;> omega), x.2.1 i hi]
      simp [e]
  · have := x.2.2 i
    simpa using this

/-- What Filled keeps. -/
def FK (w : World) (v : Bool) (h l : Int) (wr : World) : Prop :=
  Blk wr w.heap.size #[.bool v, .int .u64 h, .int .u64 l] 26 ∧ Blk wr (w.heap.size + 1) #[.bool false, .int .u64 0, .int .u64 0] 26 ∧ Below w.heap.size w wr

theorem FK.below {w W w1 : World} {v : Bool} {h l : Int} (s : FK w v h l W) (hb : Below W.heap.size W w1) : FK w v h l w1 := ⟨s.1.below hb, s.2.1.below hb, s.2.2.trans (hb.mono s.2.2.size)⟩

theorem FK.put {w W : World} {v : Bool} {h l : Int} (s : FK w v h l W) {g i : Nat} (hg : w.heap.size + 2 ≤ g) (u : Value) : FK w v h l (W.setCell ⟨g, i, none⟩ u) := ⟨s.1.far (by omega) _ _, s.2.1.far (by omega) _ _, s.2.2.setCell (by show _ ≤ g; omega) _⟩

set_option maxRecDepth 100000 in
set_option maxHeartbeats 1600000 in
theorem filled_32 {h l f bb : Int} {a F t : Nat} (ha : IsNum h l a) (haW : a < 2 ^ 32) (hF : F ≤ 32) (hf : f = (F : Nat)) (hbb : bb = (t : Nat)) (ht : t ≤ 1) (w : World) :
    Calls Tryz.prog 38 #[av false h l, .int .i64 f, .int .i64 bb] w fun e w' => ∃ h' l', e = .returned (av false h' l') ∧ IsNum h' l' (fillN a (32 - F) t) ∧ Below w.heap.size w w' := by
  have hfH : Hid (f = (F : Nat)) := hf
  have hbH : Hid (bb = (t : Nat)) := hbb
  have f0 : 0 ≤ f := by omega
  have f1 : f ≤ 32 := by omega
  have R0 : FK w false h l ((w.alloc (.cells #[.bool false, .int .u64 h, .int .u64 l] 26)).alloc (.cells #[.bool false, .int .u64 0, .int .u64 0] 26)) :=
    ⟨(Blk.new _ _ _).alloc _, by simpa using Blk.new (w.alloc (.cells #[.bool false, .int .u64 h, .int .u64 l] 26)) #[.bool false, .int .u64 0, .int .u64 0] 26, by repeat (first | with_reducible exact Below.refl _ _ | with_reducible refine Below.drew ?_ | with_reducible refine Below.alloc ?_ (by first | omega | (simp <;> omega)) _ | with_reducible refine Below.setCell ?_ (by first | omega | (simp <;> omega)) _)⟩
  have RW := row_32 ha ((w.alloc (.cells #[.bool false, .int .u64 h, .int .u64 l] 26)).alloc (.cells #[.bool false, .int .u64 0, .int .u64 0] 26))
  clear hf hbb ha
  go_enter Tryz.func38, Tryz.ntmps38
  go_wp2_with fail
  refine RW.mono ?_
  rintro e w1 ⟨g, cap, rfl, hg, hcap, hm, hrw, hb1⟩
  have R1 := R0.below hb1
  have hg2 : w.heap.size + 2 ≤ g := by simpa using hg
  clear R0 hb1 hg RW
  go_wp2_with fail
  go_loopw [8] (fun i wr => ∃ (m : Nat) (M : Int), F ≤ m ∧ m ≤ 32 ∧ i = .int .i64 M ∧ Hid (M = (m : Nat)) ∧ 0 ≤ M ∧ M ≤ 32 ∧ Rw wr g 32 (fun i => if F ≤ i ∧ i < m then t else bitN a (32 - 1 - i)) ∧ FK w false h l wr) (fun i _ => 32 - (intOf i).toNat)
  case atStart => exact ⟨F, f, by omega, hF, rfl, hfH, f0, f1, hrw.congr (fun i _ => by rw [if_neg (by omega)]), R1⟩
  case round =>
    clear R1 hrw
    obtain ⟨m, M, hFm, hmW, rfl, hM, M0, M1, hr, R⟩ := hrel
    have hM' := hM.out
    by_cases hlt : m < 32
    · have Ml : M < 32 := by omega
      have MN : M.toNat = m := by omega
      have cell := hr.2.1 M.toNat (by omega)
      have fro := hr.2.2 M.toNat
      have hgl := hr.1
      have nx : Rw (wr.setCell ⟨g, M.toNat, none⟩ (.int .i64 bb)) g 32 (fun i => if F ≤ i ∧ i < m + 1 then t else bitN a (32 - 1 - i)) := by
        rw [hbH.out, MN]
        refine (hr.put (t := t) hlt).congr (fun i hi => ?_)
        by_cases e : i = m
        · subst e; rw [if_pos rfl, if_pos (by omega)]
        · rw [if_neg e]
          by_cases e2 : F ≤ i ∧ i < m
          · rw [if_pos e2, if_pos (by omega)]
          · rw [if_neg e2, if_neg (by omega)]
      have nxH : Hid _ := nx
      have R' : Hid (FK w false h l (wr.setCell ⟨g, M.toNat, none⟩ (.int .i64 bb))) := R.put hg2 _
      clear nx hM' MN hr R
      go_wp2
      go_roundw
      case measure => simp [intOf]; omega
      case rel => exact ⟨m + 1, M + 1, by omega, by omega, rfl, by show _ = _; have := hM.out; omega, by omega, by omega, nxH.out, R'.out⟩
    · obtain rfl : m = 32 := by omega
      obtain rfl : M = 32 := by omega
      have hr2 : Rw wr g 32 (fun i => bitN (fillN a (32 - F) t) (32 - 1 - i)) := hr.congr (fun i hi => by
        rw [bitN_fill _ _ _ _ ht]
        by_cases e : F ≤ i
        · rw [if_pos ⟨e, hi⟩, if_pos (by omega)]
        · rw [if_neg (fun h => e h.1), if_neg (by omega)])
      have AD := raddr_32 false (fillN_lt ht (show 32 - F ≤ 32 by omega) haW) g cap hcap hm wr hr2
      obtain ⟨r0, r1, r2, r3, r4, r5, r6⟩ := R.1.three
      clear hr hr2 hM hM'
      go_wp2_with fail
      refine AD.mono ?_
      rintro e w5 ⟨h', l', rfl, hn, hb5⟩
      have hnH : Hid (IsNum h' l' (fillN a (32 - F) t)) := hn
      have R5 := R.below hb5
      obtain ⟨q0, q1, q2, q3, q4, q5, q6⟩ := R5.2.1.three
      have B5 := R5.2.2
      clear hn AD hb5 R r0 r1 r2 r3 r4 r5 r6
      go_wp2
      refine bodyPost_ret (v := av false h' l') (by simp [results, Tryz.results38, go_sem, World.cell?_setCell_same', World.cell?_setCell_other, *]) rfl ⟨h', l', rfl, hnH.out, by repeat (first | with_reducible exact Below.refl _ _ | with_reducible refine Below.drew ?_ | with_reducible refine Below.alloc ?_ (by first | omega | (simp <;> omega)) _ | with_reducible refine Below.setCell ?_ (by first | omega | (simp <;> omega)) _ | with_reducible refine Below.trans ?_ (Below.mono B5 (by first | omega | (simp <;> omega))))⟩

set_option maxRecDepth 100000 in
set_option maxHeartbeats 1600000 in
theorem filled_128 {h l f bb : Int} {a F t : Nat} (ha : IsNum h l a) (haW : a < 2 ^ 128) (hF : F ≤ 128) (hf : f = (F : Nat)) (hbb : bb = (t : Nat)) (ht : t ≤ 1) (w : World) :
    Calls Tryz.prog 38 #[av true h l, .int .i64 f, .int .i64 bb] w fun e w' => ∃ h' l', e = .returned (av true h' l') ∧ IsNum h' l' (fillN a (128 - F) t) ∧ Below w.heap.size w w' := by
  have hfH : Hid (f = (F : Nat)) := hf
  have hbH : Hid (bb = (t : Nat)) := hbb
  have f0 : 0 ≤ f := by omega
  have f1 : f ≤ 128 := by omega
  have R0 : FK w true h l ((w.alloc (.cells #[.bool true, .int .u64 h, .int .u64 l] 26)).alloc (.cells #[.bool false, .int .u64 0, .int .u64 0] 26)) :=
    ⟨(Blk.new _ _ _).alloc _, by simpa using Blk.new (w.alloc (.cells #[.bool true, .int .u64 h, .int .u64 l] 26)) #[.bool false, .int .u64 0, .int .u64 0] 26, by repeat (first | with_reducible exact Below.refl _ _ | with_reducible refine Below.drew ?_ | with_reducible refine Below.alloc ?_ (by first | omega | (simp <;> omega)) _ | with_reducible refine Below.setCell ?_ (by first | omega | (simp <;> omega)) _)⟩
  have RW := row_128 ha ((w.alloc (.cells #[.bool true, .int .u64 h, .int .u64 l] 26)).alloc (.cells #[.bool false, .int .u64 0, .int .u64 0] 26))
  clear hf hbb ha
  go_enter Tryz.func38, Tryz.ntmps38
  go_wp2_with fail
  refine RW.mono ?_
  rintro e w1 ⟨g, cap, rfl, hg, hcap, hm, hrw, hb1⟩
  have R1 := R0.below hb1
  have hg2 : w.heap.size + 2 ≤ g := by simpa using hg
  clear R0 hb1 hg RW
  go_wp2_with fail
  go_loopw [8] (fun i wr => ∃ (m : Nat) (M : Int), F ≤ m ∧ m ≤ 128 ∧ i = .int .i64 M ∧ Hid (M = (m : Nat)) ∧ 0 ≤ M ∧ M ≤ 128 ∧ Rw wr g 128 (fun i => if F ≤ i ∧ i < m then t else bitN a (128 - 1 - i)) ∧ FK w true h l wr) (fun i _ => 128 - (intOf i).toNat)
  case atStart => exact ⟨F, f, by omega, hF, rfl, hfH, f0, f1, hrw.congr (fun i _ => by rw [if_neg (by omega)]), R1⟩
  case round =>
    clear R1 hrw
    obtain ⟨m, M, hFm, hmW, rfl, hM, M0, M1, hr, R⟩ := hrel
    have hM' := hM.out
    by_cases hlt : m < 128
    · have Ml : M < 128 := by omega
      have MN : M.toNat = m := by omega
      have cell := hr.2.1 M.toNat (by omega)
      have fro := hr.2.2 M.toNat
      have hgl := hr.1
      have nx : Rw (wr.setCell ⟨g, M.toNat, none⟩ (.int .i64 bb)) g 128 (fun i => if F ≤ i ∧ i < m + 1 then t else bitN a (128 - 1 - i)) := by
        rw [hbH.out, MN]
        refine (hr.put (t := t) hlt).congr (fun i hi => ?_)
        by_cases e : i = m
        · subst e; rw [if_pos rfl, if_pos (by omega)]
        · rw [if_neg e]
          by_cases e2 : F ≤ i ∧ i < m
          · rw [if_pos e2, if_pos (by omega)]
          · rw [if_neg e2, if_neg (by omega)]
      have nxH : Hid _ := nx
      have R' : Hid (FK w true h l (wr.setCell ⟨g, M.toNat, none⟩ (.int .i64 bb))) := R.put hg2 _
      clear nx hM' MN hr R
      go_wp2
      go_roundw
      case measure => simp [intOf]; omega
      case rel => exact ⟨m + 1, M + 1, by omega, by omega, rfl, by show _ = _; have := hM.out; omega, by omega, by omega, nxH.out, R'.out⟩
    · obtain rfl : m = 128 := by omega
      obtain rfl : M = 128 := by omega
      have hr2 : Rw wr g 128 (fun i => bitN (fillN a (128 - F) t) (128 - 1 - i)) := hr.congr (fun i hi => by
        rw [bitN_fill _ _ _ _ ht]
        by_cases e : F ≤ i
        · rw [if_pos ⟨e, hi⟩, if_pos (by omega)]
        · rw [if_neg (fun h => e h.1), if_neg (by omega)])
      have AD := raddr_128 true (fillN_lt ht (show 128 - F ≤ 128 by omega) haW) g cap hcap hm wr hr2
      obtain ⟨r0, r1, r2, r3, r4, r5, r6⟩ := R.1.three
      clear hr hr2 hM hM'
      go_wp2_with fail
      refine AD.mono ?_
      rintro e w5 ⟨h', l', rfl, hn, hb5⟩
      have hnH : Hid (IsNum h' l' (fillN a (128 - F) t)) := hn
      have R5 := R.below hb5
      obtain ⟨q0, q1, q2, q3, q4, q5, q6⟩ := R5.2.1.three
      have B5 := R5.2.2
      clear hn AD hb5 R r0 r1 r2 r3 r4 r5 r6
      go_wp2
      refine bodyPost_ret (v := av true h' l') (by simp [results, Tryz.results38, go_sem, World.cell?_setCell_same', World.cell?_setCell_other, *]) rfl ⟨h', l', rfl, hnH.out, by repeat (first | with_reducible exact Below.refl _ _ | with_reducible refine Below.drew ?_ | with_reducible refine Below.alloc ?_ (by first | omega | (simp <;> omega)) _ | with_reducible refine Below.setCell ?_ (by first | omega | (simp <;> omega)) _ | with_reducible refine Below.trans ?_ (Below.mono B5 (by first | omega | (simp <;> omega))))⟩

end Go.Proofs.YtbecaepagachpaaGreatDoor
