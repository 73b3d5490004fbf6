/-
  The reference's New, Has, Put, Drop, Set, Count and Next.
-/
import Derived.Test.YtkfglbmhpdcfpaaDoorBmS
namespace Go.Proofs.YtkfglbmhpdcfpaaDoor
open Go.ChangeShapes Go.WideShapes Go.ChangeAt Go.RowKit
set_option linter.unusedVariables false
set_option linter.unusedSimpArgs false

/-- The reference's map at a, its truths at g. -/
structure RefAt (W : World) (a g n : Nat) (f : Nat → Bool) : Prop where
  head : Blk W a #[.slice (some ⟨g, 0, none⟩) n n] 58
  row : Blk W g ((List.range n).map (fun p => Value.bool (f p))).toArray 4
  small : n ≤ 65536

theorem RefAt.get {W : World} {a g n : Nat} {f : Nat → Bool} (h : RefAt W a g n f) {i : Nat} (hi : i < n) : W.cell? ⟨g, i, none⟩ = some (.bool (f i)) := by
  rw [h.row.cell i]
  simp [hi]

theorem RefAt.slice {W : World} {a g n : Nat} {f : Nat → Bool} (h : RefAt W a g n f) : W.cell? ⟨a, 0, none⟩ = some (.slice (some ⟨g, 0, none⟩) n n) := h.head.cell 0

theorem RefAt.ne {W : World} {a g n : Nat} {f : Nat → Bool} (h : RefAt W a g n f) : a ≠ g := h.head.ne h.row (by decide)

theorem RefAt.put {W : World} {a g n : Nat} {f : Nat → Bool} (h : RefAt W a g n f) (i : Nat) (v : Bool) : RefAt (W.setCell ⟨g, i, none⟩ (.bool v)) a g n (upd f i v) := by
  refine ⟨h.head.far h.ne i _, ?_, h.small⟩
  have e : ((List.range n).map (fun p => Value.bool (f p))).toArray.setIfInBounds i (.bool v) = ((List.range n).map (fun p => Value.bool (upd f i v p))).toArray := by
    apply Array.ext'
    simp only [Array.toList_setIfInBounds]
    apply List.ext_getElem?
    intro p
    rw [List.getElem?_set]
    by_cases hp : i = p
    · subst hp
      by_cases hi : i < n <;> simp [hi, upd]
    · rw [if_neg hp]
      by_cases hi : p < n
      · simp [hi, upd, Ne.symm hp]
      · simp [hi]
  rw [← e]
  exact h.row.put i _

theorem RefAt.cast {W : World} {a g n : Nat} {f f' : Nat → Bool} (h : RefAt W a g n f) (e : ∀ p, p < n → f p = f' p) : RefAt W a g n f' := by
  refine ⟨h.head, ?_, h.small⟩
  rw [← List.map_congr_left (l := List.range n) (f := fun p => Value.bool (f p)) (g := fun p => Value.bool (f' p)) (fun p hp => by rw [e p (List.mem_range.1 hp)])]
  exact h.row

theorem RefAt.blks {W W' : World} {a g n : Nat} {f : Nat → Bool} (h : RefAt W a g n f) (ha : W'.heap[a]? = W.heap[a]?) (hg : W'.heap[g]? = W.heap[g]?) : RefAt W' a g n f := ⟨ha.trans h.head, hg.trans h.row, h.small⟩

theorem RefAt.below {W W' : World} {a g n : Nat} {f : Nat → Bool} (h : RefAt W a g n f) (k : Below W.heap.size W W') : RefAt W' a g n f := h.blks (k.block _ h.head.lt) (k.block _ h.row.lt)

theorem rnew_bad (n : Int) (hn : n < 0 ∨ 65536 < n) (w : World) : Calls Tryd.prog 18 #[.int .i64 n] w fun e w' => e = .returned (.tuple #[.pointer none, .int .i64 1]) ∧ w' = w := by
  go_enter Tryd.func18, Tryd.ntmps18
  rcases hn with hn | hn
  · go_wp2
    go_ret2
    exact ⟨rfl, rfl⟩
  · have : ¬ n < 0 := by omega
    go_wp2
    go_ret2
    exact ⟨rfl, rfl⟩

theorem infoBool : (Tryd.prog.info? 4).map (fun i => (i.zero, i.size, i.bytes)) = some (some (.bool false), 1, 1) := by kernel_rfl

theorem rnew_c (n : Nat) (hn : n ≤ 65536) (w : World) : Calls Tryd.prog 18 #[.int .i64 n] w fun e w' =>
    e = .returned (.tuple #[.pointer (some ⟨w.heap.size + 1, 0, none⟩), .int .i64 0]) ∧ RefAt w' (w.heap.size + 1) w.heap.size n (fun _ => false) ∧ Below w.heap.size w w' ∧ w'.heap.size = w.heap.size + 2 := by
  go_enter Tryd.func18, Tryd.ntmps18
  have h0 : ¬ ((n : Int) < 0) := by omega
  have h1 : ¬ ((n : Int) > 65536) := by omega
  have hmk : ∀ w, (Instr.makeSlice 56 (.int .i64 (n : Int)) (.int .i64 (n : Int))).run Tryd.prog w = .ok (.slice (some ⟨w.heap.size, 0, none⟩) n n) (w.alloc (.cells (madeCells #[.bool false] n) 4)) := fun w =>
    run_make_row' (P := Tryd.prog) 56 4 (.bool false) 1 Tryd.underlying56 infoBool rfl .i64 .i64 n (by omega) (by omega) w
  go_wp2
  go_ret2
  refine ⟨rfl, ⟨?_, ?_, hn⟩, by repeat (first | with_reducible exact Below.refl _ _ | with_reducible refine Below.drew ?_ | with_reducible refine Below.alloc ?_ (by first | omega | (simp <;> omega)) _ | with_reducible refine Below.setCell ?_ (by first | omega | (simp <;> omega)) _), ?_⟩
  · have e := Blk.new (w.alloc (.cells (madeCells #[.bool false] n) 4)) #[.slice (some ⟨w.heap.size, 0, none⟩) n n] 58
    rw [show (w.alloc (.cells (madeCells #[.bool false] n) 4)).heap.size = w.heap.size + 1 by simp] at e
    exact e
  · refine Blk.alloc ?_ _
    have e : madeCells #[Value.bool false] n = ((List.range n).map (fun p => Value.bool ((fun _ => false) p))).toArray := by
      apply Array.ext'; rw [toList_madeCells_one]; simp [List.map_const']
    rw [← e]
    exact Blk.new _ _ _
  · simp

theorem rhas_c (a g n : Nat) (f : Nat → Bool) (i : Int) (w : World) (H : RefAt w a g n f) {b : Bool} (hb : (decide (0 ≤ i ∧ i < n) && f i.toNat) = b) : Calls Tryd.prog 25 #[.pointer (some ⟨a, 0, none⟩), .int .i64 i] w fun e w' => e = .returned (.bool b) ∧ w' = w := by
  have hs := H.slice
  have hn := H.small
  by_cases h0 : 0 ≤ i
  · obtain ⟨j, rfl⟩ := Int.eq_ofNat_of_zero_le h0
    by_cases h1 : j < n
    · have hg := H.get h1
      have h1' : (j : Int) < n := by omega
      rw [decide_eq_true ⟨h0, h1'⟩, Bool.true_and, Int.toNat_natCast] at hb
      rw [hb] at hg
      clear H hb h0
      go_enter Tryd.func25, Tryd.ntmps25
      go_wp2
      go_ret
      exact ⟨rfl, rfl⟩
    · have h1' : ¬ (j : Int) < n := by omega
      rw [decide_eq_false (by omega), Bool.false_and] at hb
      subst hb
      clear H h0
      go_enter Tryd.func25, Tryd.ntmps25
      go_wp2
      go_ret
      exact ⟨rfl, rfl⟩
  · rw [decide_eq_false (by omega), Bool.false_and] at hb
    subst hb
    have h0' : ¬ i ≥ 0 := by omega
    clear H h0
    go_enter Tryd.func25, Tryd.ntmps25
    go_wp2
    go_ret
    exact ⟨rfl, rfl⟩

theorem rPut_bad (a g n : Nat) (f : Nat → Bool) (i : Int) (hbad : ¬ (0 ≤ i ∧ i < n)) (w : World) (H : RefAt w a g n f) : Calls Tryd.prog 49 #[.pointer (some ⟨a, 0, none⟩), .int .i64 i] w fun e w' => e = .returned (.int .i64 1) ∧ w' = w := by
  have hs := H.slice
  have hn := H.small
  clear H
  by_cases h0 : i < 0
  · clear hbad
    go_enter Tryd.func49, Tryd.ntmps49
    go_wp2
    go_ret
    exact ⟨rfl, rfl⟩
  · have h1 : i ≥ n := by omega
    clear hbad
    go_enter Tryd.func49, Tryd.ntmps49
    go_wp2
    go_ret
    exact ⟨rfl, rfl⟩

theorem rDrop_bad (a g n : Nat) (f : Nat → Bool) (i : Int) (hbad : ¬ (0 ≤ i ∧ i < n)) (w : World) (H : RefAt w a g n f) : Calls Tryd.prog 50 #[.pointer (some ⟨a, 0, none⟩), .int .i64 i] w fun e w' => e = .returned (.int .i64 1) ∧ w' = w := by
  have hs := H.slice
  have hn := H.small
  clear H
  by_cases h0 : i < 0
  · clear hbad
    go_enter Tryd.func50, Tryd.ntmps50
    go_wp2
    go_ret
    exact ⟨rfl, rfl⟩
  · have h1 : i ≥ n := by omega
    clear hbad
    go_enter Tryd.func50, Tryd.ntmps50
    go_wp2
    go_ret
    exact ⟨rfl, rfl⟩

theorem rPut_same (a g n : Nat) (f : Nat → Bool) (i : Nat) (hi : i < n) (hf : f i = true) (w : World) (H : RefAt w a g n f) : Calls Tryd.prog 49 #[.pointer (some ⟨a, 0, none⟩), .int .i64 i] w fun e w' => e = .returned (.int .i64 14) ∧ w' = w := by
  have hs := H.slice
  have hn := H.small
  have hg := H.get hi
  rw [hf] at hg
  clear H hf
  have h0 : ¬ ((i : Int) < 0) := by omega
  have h1 : ¬ ((i : Int) ≥ n) := by omega
  go_enter Tryd.func49, Tryd.ntmps49
  go_wp2
  go_ret
  exact ⟨rfl, rfl⟩

theorem rDrop_same (a g n : Nat) (f : Nat → Bool) (i : Nat) (hi : i < n) (hf : f i = false) (w : World) (H : RefAt w a g n f) : Calls Tryd.prog 50 #[.pointer (some ⟨a, 0, none⟩), .int .i64 i] w fun e w' => e = .returned (.int .i64 7) ∧ w' = w := by
  have hs := H.slice
  have hn := H.small
  have hg := H.get hi
  rw [hf] at hg
  clear H hf
  have h0 : ¬ ((i : Int) < 0) := by omega
  have h1 : ¬ ((i : Int) ≥ n) := by omega
  go_enter Tryd.func50, Tryd.ntmps50
  go_wp2
  go_ret
  exact ⟨rfl, rfl⟩

theorem rPut_new (a g n : Nat) (f : Nat → Bool) (i : Nat) (hi : i < n) (hf : f i = false) (w : World) (H : RefAt w a g n f) : Calls Tryd.prog 49 #[.pointer (some ⟨a, 0, none⟩), .int .i64 i] w fun e w' => e = .returned (.int .i64 0) ∧ w' = w.setCell ⟨g, i, none⟩ (.bool true) := by
  have hs := H.slice
  have hn := H.small
  have hg := H.get hi
  have hz := H.row.frozen i
  rw [hf] at hg
  clear H hf
  have h0 : ¬ ((i : Int) < 0) := by omega
  have h1 : ¬ ((i : Int) ≥ n) := by omega
  go_enter Tryd.func49, Tryd.ntmps49
  go_wp2
  go_ret
  exact ⟨rfl, rfl⟩

theorem rDrop_new (a g n : Nat) (f : Nat → Bool) (i : Nat) (hi : i < n) (hf : f i = true) (w : World) (H : RefAt w a g n f) : Calls Tryd.prog 50 #[.pointer (some ⟨a, 0, none⟩), .int .i64 i] w fun e w' => e = .returned (.int .i64 0) ∧ w' = w.setCell ⟨g, i, none⟩ (.bool false) := by
  have hs := H.slice
  have hn := H.small
  have hg := H.get hi
  have hz := H.row.frozen i
  rw [hf] at hg
  clear H hf
  have h0 : ¬ ((i : Int) < 0) := by omega
  have h1 : ¬ ((i : Int) ≥ n) := by omega
  go_enter Tryd.func50, Tryd.ntmps50
  go_wp2
  go_ret
  exact ⟨rfl, rfl⟩

theorem rset_bad (a g n : Nat) (f : Nat → Bool) (A B : Int) (v : Bool) (hbad : ¬ (0 ≤ A ∧ A ≤ B ∧ B < n)) (w : World) (H : RefAt w a g n f) : Calls Tryd.prog 51 #[.pointer (some ⟨a, 0, none⟩), .int .i64 A, .int .i64 B, .bool v] w fun e w' => e = .returned (.tuple #[.int .i64 0, .int .i64 1]) ∧ w' = w := by
  have hs := H.slice
  have hn := H.small
  clear H
  rcases (show A < 0 ∨ (¬ A < 0 ∧ A ≥ n) ∨ (¬ A < 0 ∧ ¬ A ≥ n ∧ B < 0) ∨ (¬ A < 0 ∧ ¬ A ≥ n ∧ ¬ B < 0 ∧ B ≥ n) ∨ (¬ A < 0 ∧ ¬ A ≥ n ∧ ¬ B < 0 ∧ ¬ B ≥ n ∧ B < A) by omega) with h1 | ⟨h1, h2⟩ | ⟨h1, h2, h3⟩ | ⟨h1, h2, h3, h4⟩ | ⟨h1, h2, h3, h4, h5⟩
  all_goals
    clear hbad
    go_enter Tryd.func51, Tryd.ntmps51
    go_wp2
    go_ret2
    exact ⟨rfl, rfl⟩

theorem cnt_t {p : Nat → Bool} {n : Nat} (h : p n = true) : cnt p (n + 1) = cnt p n + 1 := by simp only [cnt]; rw [if_pos h]

theorem cnt_f {p : Nat → Bool} {n : Nat} (h : p n = false) : cnt p (n + 1) = cnt p n := by simp only [cnt]; rw [if_neg (by simp [h])]; rfl

/-- Ahead of bit k. -/
def setF (A B : Nat) (v : Bool) (f : Nat → Bool) (k : Nat) : Nat → Bool := fun p => if p < k then rowB A B v f p else f p

set_option maxHeartbeats 1000000 in
theorem rset_ok_t (a g n : Nat) (f : Nat → Bool) (A B : Nat) (hAB : A ≤ B) (hB : B < n) (w : World) (H : RefAt w a g n f) {C : Int} (hC : ((cnt (fun p => f p != rowB A B true f p) 65536 : Nat) : Int) = C) : Calls Tryd.prog 51 #[.pointer (some ⟨a, 0, none⟩), .int .i64 A, .int .i64 B, .bool true] w fun e w' => e = .returned (.tuple #[.int .i64 C, .int .i64 0]) ∧ RefAt w' a g n (rowB A B true f) ∧ But [g] w.heap.size w w' := by
  have hs := H.slice
  have hn := H.small
  have h1 : ¬ ((A : Int) < 0) := by omega
  have h2 : ¬ ((A : Int) ≥ n) := by omega
  have h3 : ¬ ((B : Int) < 0) := by omega
  have h4 : ¬ ((B : Int) ≥ n) := by omega
  have h5 : ¬ ((B : Int) < A) := by omega
  have S0 : RefAt w a g n (setF A B true f A) := H.cast (fun p _ => by
    unfold setF rowB
    split
    · rename_i h; rw [if_neg (by omega)]
    · rfl)
  have C0 : cnt (fun p => f p != rowB A B true f p) A = 0 := cnt_zero (fun p hp => by unfold rowB; rw [if_neg (by omega)]; simp)
  have CE : cnt (fun p => f p != rowB A B true f p) 65536 = cnt (fun p => f p != rowB A B true f p) (B + 1) := cnt_more (by omega) (fun p hp _ => by unfold rowB; rw [if_neg (by omega)]; simp)
  have HC := hide hC
  have HE := hide CE
  have H0 := hide C0
  have HS := hide S0
  clear H S0 C0 CE hC
  go_enter Tryd.func51, Tryd.ntmps51
  go_wp2_with fail
  go_loopw [10, 11] (fun c i wr => ∃ (k : Nat) (m : Nat), A ≤ k ∧ k ≤ B + 1 ∧ i = .int .i64 k ∧ c = .int .i64 m ∧ Hid (cnt (fun p => f p != rowB A B true f p) k = m) ∧ Hid (RefAt wr a g n (setF A B true f k)) ∧ Hid (But [g] w.heap.size w wr)) (fun _ i _ => B + 1 - (intOf i).toNat)
  case atStart => exact ⟨A, 0, by omega, by omega, rfl, rfl, H0, HS, But.refl _ _ _⟩
  case round =>
    clear HS H0 hs
    obtain ⟨k, m, hk1, hk2, rfl, rfl, hm, hR, hK⟩ := hrel
    have ml : m ≤ k := hm.out ▸ cnt_le _ _
    have hs := hR.out.slice
    by_cases hlt : k ≤ B
    · have hlt' : (k : Int) ≤ B := by omega
      have hkn : (k : Int) < n := by omega
      have hg := hR.out.get (i := k) (by omega)
      have hz := hR.out.row.frozen k
      rw [show setF A B true f k k = f k by unfold setF; rw [if_neg (by omega)]] at hg
      have HR2 : Hid (RefAt (wr.setCell ⟨g, k, none⟩ (.bool true)) a g n (setF A B true f (k + 1))) := (hR.out.put k true).cast (fun p _ => by
        unfold upd setF
        by_cases e : p = k
        · rw [if_pos e, if_pos (by omega)]; unfold rowB; rw [if_pos (by omega)]
        · rw [if_neg e]
          by_cases e2 : p < k
          · rw [if_pos e2, if_pos (by omega)]
          · rw [if_neg e2, if_neg (by omega)])
      have HK2 : Hid (But [g] w.heap.size w (wr.setCell ⟨g, k, none⟩ (.bool true))) := ⟨hK.out.os, hK.out.tape, hK.out.output, by simpa using hK.out.size, fun b hb hn => by
        rw [Deep.blk_setCell_other _ ⟨g, k, none⟩ _ b (by simpa using hn)]
        exact hK.out.block b hb hn⟩
      have rk : rowB A B true f k = true := by unfold rowB; rw [if_pos (by omega)]
      clear hR hK
      by_cases hv : f k = true
      · have hm2 : Hid (cnt (fun p => f p != rowB A B true f p) (k + 1) = m) := by
          show _ = _
          rw [cnt_f (by rw [rk, hv]; rfl), hm.out]
        rw [hv] at hg
        clear hm rk hv
        go_wp2
        go_roundw
        case rel => exact ⟨k + 1, m, by omega, by omega, by go_num, rfl, hm2, HR2, HK2⟩
        case measure => simp [intOf]; omega
      · have hm2 : Hid (cnt (fun p => f p != rowB A B true f p) (k + 1) = m + 1) := by
          show _ = _
          rw [cnt_t (by rw [rk]; simp [hv]), hm.out]
        rw [show f k = false by simpa using hv] at hg
        clear hm rk hv
        go_wp2
        go_roundw
        case rel => exact ⟨k + 1, m + 1, by omega, by omega, by go_num, by go_num, hm2, HR2, HK2⟩
        case measure => simp [intOf]; omega
    · obtain rfl : k = B + 1 := by omega
      have hRf := hide (hR.out.cast (f' := rowB A B true f) (fun p hp => by
        unfold setF
        split
        · rfl
        · unfold rowB; rw [if_neg (by omega)]))
      have hCm : Hid (C = (m : Int)) := by show _ = _; rw [← HC.out, HE.out, hm.out]
      clear hm hR hs
      go_wp2
      go_ret2
      exact ⟨by rw [hCm.out]; rfl, hRf.out, hK.out⟩

set_option maxHeartbeats 1000000 in
theorem rset_ok_f (a g n : Nat) (f : Nat → Bool) (A B : Nat) (hAB : A ≤ B) (hB : B < n) (w : World) (H : RefAt w a g n f) {C : Int} (hC : ((cnt (fun p => f p != rowB A B false f p) 65536 : Nat) : Int) = C) : Calls Tryd.prog 51 #[.pointer (some ⟨a, 0, none⟩), .int .i64 A, .int .i64 B, .bool false] w fun e w' => e = .returned (.tuple #[.int .i64 C, .int .i64 0]) ∧ RefAt w' a g n (rowB A B false f) ∧ But [g] w.heap.size w w' := by
  have hs := H.slice
  have hn := H.small
  have h1 : ¬ ((A : Int) < 0) := by omega
  have h2 : ¬ ((A : Int) ≥ n) := by omega
  have h3 : ¬ ((B : Int) < 0) := by omega
  have h4 : ¬ ((B : Int) ≥ n) := by omega
  have h5 : ¬ ((B : Int) < A) := by omega
  have S0 : RefAt w a g n (setF A B false f A) := H.cast (fun p _ => by
    unfold setF rowB
    split
    · rename_i h; rw [if_neg (by omega)]
    · rfl)
  have C0 : cnt (fun p => f p != rowB A B false f p) A = 0 := cnt_zero (fun p hp => by unfold rowB; rw [if_neg (by omega)]; simp)
  have CE : cnt (fun p => f p != rowB A B false f p) 65536 = cnt (fun p => f p != rowB A B false f p) (B + 1) := cnt_more (by omega) (fun p hp _ => by unfold rowB; rw [if_neg (by omega)]; simp)
  have HC := hide hC
  have HE := hide CE
  have H0 := hide C0
  have HS := hide S0
  clear H S0 C0 CE hC
  go_enter Tryd.func51, Tryd.ntmps51
  go_wp2_with fail
  go_loopw [10, 11] (fun c i wr => ∃ (k : Nat) (m : Nat), A ≤ k ∧ k ≤ B + 1 ∧ i = .int .i64 k ∧ c = .int .i64 m ∧ Hid (cnt (fun p => f p != rowB A B false f p) k = m) ∧ Hid (RefAt wr a g n (setF A B false f k)) ∧ Hid (But [g] w.heap.size w wr)) (fun _ i _ => B + 1 - (intOf i).toNat)
  case atStart => exact ⟨A, 0, by omega, by omega, rfl, rfl, H0, HS, But.refl _ _ _⟩
  case round =>
    clear HS H0 hs
    obtain ⟨k, m, hk1, hk2, rfl, rfl, hm, hR, hK⟩ := hrel
    have ml : m ≤ k := hm.out ▸ cnt_le _ _
    have hs := hR.out.slice
    by_cases hlt : k ≤ B
    · have hlt' : (k : Int) ≤ B := by omega
      have hkn : (k : Int) < n := by omega
      have hg := hR.out.get (i := k) (by omega)
      have hz := hR.out.row.frozen k
      rw [show setF A B false f k k = f k by unfold setF; rw [if_neg (by omega)]] at hg
      have HR2 : Hid (RefAt (wr.setCell ⟨g, k, none⟩ (.bool false)) a g n (setF A B false f (k + 1))) := (hR.out.put k false).cast (fun p _ => by
        unfold upd setF
        by_cases e : p = k
        · rw [if_pos e, if_pos (by omega)]; unfold rowB; rw [if_pos (by omega)]
        · rw [if_neg e]
          by_cases e2 : p < k
          · rw [if_pos e2, if_pos (by omega)]
          · rw [if_neg e2, if_neg (by omega)])
      have HK2 : Hid (But [g] w.heap.size w (wr.setCell ⟨g, k, none⟩ (.bool false))) := ⟨hK.out.os, hK.out.tape, hK.out.output, by simpa using hK.out.size, fun b hb hn => by
        rw [Deep.blk_setCell_other _ ⟨g, k, none⟩ _ b (by simpa using hn)]
        exact hK.out.block b hb hn⟩
      have rk : rowB A B false f k = false := by unfold rowB; rw [if_pos (by omega)]
      clear hR hK
      by_cases hv : f k = false
      · have hm2 : Hid (cnt (fun p => f p != rowB A B false f p) (k + 1) = m) := by
          show _ = _
          rw [cnt_f (by rw [rk, hv]; rfl), hm.out]
        rw [hv] at hg
        clear hm rk hv
        go_wp2
        go_roundw
        case rel => exact ⟨k + 1, m, by omega, by omega, by go_num, rfl, hm2, HR2, HK2⟩
        case measure => simp [intOf]; omega
      · have hm2 : Hid (cnt (fun p => f p != rowB A B false f p) (k + 1) = m + 1) := by
          show _ = _
          rw [cnt_t (by rw [rk]; simp [hv]), hm.out]
        rw [show f k = true by simpa using hv] at hg
        clear hm rk hv
        go_wp2
        go_roundw
        case rel => exact ⟨k + 1, m + 1, by omega, by omega, by go_num, by go_num, hm2, HR2, HK2⟩
        case measure => simp [intOf]; omega
    · obtain rfl : k = B + 1 := by omega
      have hRf := hide (hR.out.cast (f' := rowB A B false f) (fun p hp => by
        unfold setF
        split
        · rfl
        · unfold rowB; rw [if_neg (by omega)]))
      have hCm : Hid (C = (m : Int)) := by show _ = _; rw [← HC.out, HE.out, hm.out]
      clear hm hR hs
      go_wp2
      go_ret2
      exact ⟨by rw [hCm.out]; rfl, hRf.out, hK.out⟩

theorem rset_ok (a g n : Nat) (f : Nat → Bool) (A B : Nat) (v : Bool) (hAB : A ≤ B) (hB : B < n) (w : World) (H : RefAt w a g n f) {C : Int} (hC : ((cnt (fun p => f p != rowB A B v f p) 65536 : Nat) : Int) = C) : Calls Tryd.prog 51 #[.pointer (some ⟨a, 0, none⟩), .int .i64 A, .int .i64 B, .bool v] w fun e w' => e = .returned (.tuple #[.int .i64 C, .int .i64 0]) ∧ RefAt w' a g n (rowB A B v f) ∧ But [g] w.heap.size w w' := by
  cases v
  · exact rset_ok_f a g n f A B hAB hB w H hC
  · exact rset_ok_t a g n f A B hAB hB w H hC

set_option maxHeartbeats 1000000 in
theorem rcount_c (a g n : Nat) (f : Nat → Bool) (w : World) (H : RefAt w a g n f) {C : Int} (hC : ((cnt f n : Nat) : Int) = C) : Calls Tryd.prog 23 #[.pointer (some ⟨a, 0, none⟩)] w fun e w' => e = .returned (.int .i64 C) ∧ w' = w := by
  have hs := H.slice
  have hn := H.small
  have HC := hide hC
  have HH := hide H
  clear hC H
  go_enter Tryd.func23, Tryd.ntmps23
  go_wp2_with fail
  go_loop [3, 4] (fun c i => ∃ (k : Nat) (m : Nat), k ≤ n ∧ i = .int .i64 k ∧ c = .int .i64 m ∧ Hid (cnt f k = m)) (fun _ i => n - (intOf i).toNat)
  case atStart => exact ⟨0, 0, by omega, rfl, rfl, rfl⟩
  case round =>
    obtain ⟨k, m, hk, rfl, rfl, hm⟩ := hrel
    have ml : m ≤ k := hm.out ▸ cnt_le _ _
    by_cases hlt : k < n
    · have hkn : (k : Int) < n := by omega
      have hg := HH.out.get (i := k) hlt
      cases hv : f k
      · rw [hv] at hg
        have hm2 : Hid (cnt f (k + 1) = m) := by show _ = _; rw [cnt_f hv, hm.out]
        clear hm hv
        go_wp2
        go_round
        case rel => exact ⟨k + 1, m, by omega, by go_num, rfl, hm2⟩
        case measure => simp [intOf]; omega
      · rw [hv] at hg
        have hm2 : Hid (cnt f (k + 1) = m + 1) := by show _ = _; rw [cnt_t hv, hm.out]
        clear hm hv
        go_wp2
        go_round
        case rel => exact ⟨k + 1, m + 1, by omega, by go_num, by go_num, hm2⟩
        case measure => simp [intOf]; omega
    · obtain rfl : k = n := by omega
      have hCm : Hid (C = (m : Int)) := by show _ = _; rw [← HC.out, hm.out]
      clear hm
      go_wp2
      go_ret
      exact ⟨by rw [hCm.out]; rfl, rfl⟩

theorem rnext_zero (a g : Nat) (f : Nat → Bool) (i : Int) (w : World) (H : RefAt w a g 0 f) : Calls Tryd.prog 21 #[.pointer (some ⟨a, 0, none⟩), .int .i64 i] w fun e w' => e = .returned (.tuple #[.int .i64 0, .bool false]) ∧ w' = w := by
  have hs := H.slice
  clear H
  go_enter Tryd.func21, Tryd.ntmps21
  go_wp2_with fail
  go_ret2
  exact ⟨rfl, rfl⟩

end Go.Proofs.YtkfglbmhpdcfpaaDoor
