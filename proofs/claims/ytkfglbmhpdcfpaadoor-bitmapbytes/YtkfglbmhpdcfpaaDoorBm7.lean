/-
  Put, Drop, Has, Count, Next and Copy of package bitmap.
-/
import Derived.Test.YtkfglbmhpdcfpaaDoorBm6
import Derived.Test.YtkfglbmhpdcfpaaDoorBmN
namespace Go.Proofs.YtkfglbmhpdcfpaaDoor
open Go.ChangeShapes Go.WideShapes Go.ChangeAt Go.RowKit
set_option linter.unusedVariables false
set_option linter.unusedSimpArgs false

theorem put_bad (a g n : Nat) (A : Int) (hbad : ¬ (0 ≤ A ∧ A < n)) (w : World) (k : Nat) (hc : Blk w a #[.int .i64 n, .slice (some ⟨g, 0, none⟩) k k] 77) :
    Calls Tryd.prog 33 #[.pointer (some ⟨a, 0, none⟩), .int .i64 A] w fun e w' => e = .returned (.int .i64 1) ∧ Below w.heap.size w w' := by
  go_enter Tryd.func33, Tryd.ntmps33
  go_wp2_with fail
  refine (fill_bad a g n A A (by omega) _ k hc).mono ?_
  rintro e w1 ⟨rfl, hb⟩
  go_wp2_with fail
  go_ret
  exact ⟨rfl, hb⟩

theorem drop_bad (a g n : Nat) (A : Int) (hbad : ¬ (0 ≤ A ∧ A < n)) (w : World) (k : Nat) (hc : Blk w a #[.int .i64 n, .slice (some ⟨g, 0, none⟩) k k] 77) :
    Calls Tryd.prog 34 #[.pointer (some ⟨a, 0, none⟩), .int .i64 A] w fun e w' => e = .returned (.int .i64 1) ∧ Below w.heap.size w w' := by
  go_enter Tryd.func34, Tryd.ntmps34
  go_wp2_with fail
  refine (clear_bad a g n A A (by omega) _ k hc).mono ?_
  rintro e w1 ⟨rfl, hb⟩
  go_wp2_with fail
  go_ret
  exact ⟨rfl, hb⟩

theorem put_same (a g n i : Nat) (f : Nat → Bool) (hi : i < n) (hf : f i = true) (w : World) (H : MapB w a g n f) :
    Calls Tryd.prog 33 #[.pointer (some ⟨a, 0, none⟩), .int .i64 i] w fun e w' => e = .returned (.int .i64 14) ∧ MapB w' a g n (upd f i true) ∧ But [g] w.heap.size w w' := by
  have hn := H.lt.2.2.2
  have FH := hide (fill_ok a g n i i f (Nat.le_refl _) hi w H)
  clear H
  go_enter Tryd.func33, Tryd.ntmps33
  go_wp2_with fail
  refine FH.out.mono ?_
  rintro e w1 ⟨rfl, hM, hK⟩
  clear FH
  rw [cnt_upd f i true (by omega), if_pos hf]
  go_wp2_with fail
  go_ret
  exact ⟨rfl, rowB_one f i true ▸ hM, hK⟩

theorem drop_same (a g n i : Nat) (f : Nat → Bool) (hi : i < n) (hf : f i = false) (w : World) (H : MapB w a g n f) :
    Calls Tryd.prog 34 #[.pointer (some ⟨a, 0, none⟩), .int .i64 i] w fun e w' => e = .returned (.int .i64 7) ∧ MapB w' a g n (upd f i false) ∧ But [g] w.heap.size w w' := by
  have hn := H.lt.2.2.2
  have FH := hide (clear_ok a g n i i f (Nat.le_refl _) hi w H)
  clear H
  go_enter Tryd.func34, Tryd.ntmps34
  go_wp2_with fail
  refine FH.out.mono ?_
  rintro e w1 ⟨rfl, hM, hK⟩
  clear FH
  rw [cnt_upd f i false (by omega), if_pos hf]
  go_wp2_with fail
  go_ret
  exact ⟨rfl, rowB_one f i false ▸ hM, hK⟩

theorem put_new (a g n i : Nat) (f : Nat → Bool) (hi : i < n) (hf : f i = false) (w : World) (H : MapB w a g n f) :
    Calls Tryd.prog 33 #[.pointer (some ⟨a, 0, none⟩), .int .i64 i] w fun e w' => e = .returned (.int .i64 0) ∧ MapB w' a g n (upd f i true) ∧ But [g] w.heap.size w w' := by
  have hn := H.lt.2.2.2
  have FH := hide (fill_ok a g n i i f (Nat.le_refl _) hi w H)
  clear H
  go_enter Tryd.func33, Tryd.ntmps33
  go_wp2_with fail
  refine FH.out.mono ?_
  rintro e w1 ⟨rfl, hM, hK⟩
  clear FH
  rw [cnt_upd f i true (by omega), if_neg (by simp [hf])]
  go_wp2_with fail
  go_ret
  exact ⟨rfl, rowB_one f i true ▸ hM, hK⟩

theorem drop_new (a g n i : Nat) (f : Nat → Bool) (hi : i < n) (hf : f i = true) (w : World) (H : MapB w a g n f) :
    Calls Tryd.prog 34 #[.pointer (some ⟨a, 0, none⟩), .int .i64 i] w fun e w' => e = .returned (.int .i64 0) ∧ MapB w' a g n (upd f i false) ∧ But [g] w.heap.size w w' := by
  have hn := H.lt.2.2.2
  have FH := hide (clear_ok a g n i i f (Nat.le_refl _) hi w H)
  clear H
  go_enter Tryd.func34, Tryd.ntmps34
  go_wp2_with fail
  refine FH.out.mono ?_
  rintro e w1 ⟨rfl, hM, hK⟩
  clear FH
  rw [cnt_upd f i false (by omega), if_neg (by simp [hf])]
  go_wp2_with fail
  go_ret
  exact ⟨rfl, rowB_one f i false ▸ hM, hK⟩

theorem has_nil (i : Int) (w : World) : Calls Tryd.prog 24 #[.pointer none, .int .i64 i] w fun e w' => e = .returned (.bool false) ∧ Below w.heap.size w w' := by
  go_enter Tryd.func24, Tryd.ntmps24
  go_wp2_with fail
  refine (reach_nil i _).mono ?_
  rintro e w1 ⟨rfl, rfl⟩
  go_wp2_with fail
  go_ret
  exact ⟨rfl, by repeat (first | with_reducible exact Below.refl _ _ | with_reducible refine Below.drew ?_ | with_reducible refine Below.alloc ?_ (by first | omega | (simp <;> omega)) _ | with_reducible refine Below.setCell ?_ (by first | omega | (simp <;> omega)) _)⟩

theorem has_bad (a n : Nat) (i : Int) (hbad : ¬ (0 ≤ i ∧ i < n)) (w : World) (hc : w.cell? ⟨a, 0, none⟩ = some (.int .i64 n)) : Calls Tryd.prog 24 #[.pointer (some ⟨a, 0, none⟩), .int .i64 i] w fun e w' => e = .returned (.bool false) ∧ Below w.heap.size w w' := by
  go_enter Tryd.func24, Tryd.ntmps24
  go_wp2_with fail
  refine (reach_no a n i _ hc hbad).mono ?_
  rintro e w1 ⟨rfl, rfl⟩
  go_wp2_with fail
  go_ret
  exact ⟨rfl, by repeat (first | with_reducible exact Below.refl _ _ | with_reducible refine Below.drew ?_ | with_reducible refine Below.alloc ?_ (by first | omega | (simp <;> omega)) _ | with_reducible refine Below.setCell ?_ (by first | omega | (simp <;> omega)) _)⟩

theorem has_core (a g n k i x : Nat) (b : Bool) (hi : i < n) (hn : n ≤ 65536) (hk : k = (n + 63) / 64) (w : World) (hc : w.cell? ⟨a, 0, none⟩ = some (.int .i64 n)) (hs : w.cell? ⟨a, 1, none⟩ = some (.slice (some ⟨g, 0, none⟩) k k)) (hx : w.cell? ⟨g, i / 64, none⟩ = some (.int .u64 x))
    (hb : (bits .and .u64 ((x : Int) / 2 ^ (i % 64)) 1 == 1) = b) :
    Calls Tryd.prog 24 #[.pointer (some ⟨a, 0, none⟩), .int .i64 i] w fun e w' => e = .returned (.bool b) ∧ Below w.heap.size w w' := by
  have hik : i / 64 < k := by omega
  have R := hide (reach_yes a n i w hc (by omega))
  clear hc hk
  go_enter Tryd.func24, Tryd.ntmps24
  go_wp2_with fail
  refine R.out.mono ?_
  rintro e w1 ⟨rfl, rfl⟩
  go_wp2_with fail
  go_ret
  exact ⟨rfl, Below.refl _ _⟩

theorem bit_one {x : Nat} (r : Nat) (hx : x < 18446744073709551616) : (bits .and .u64 ((x : Int) / 2 ^ r) 1 == 1) = x.testBit r := by
  have e : (x : Int) / 2 ^ r = ((x / 2 ^ r : Nat) : Int) := by
    have e2 : (2 : Int) ^ r = ((2 ^ r : Nat) : Int) := by rw [Int.natCast_pow]; rfl
    rw [e2]; rfl
  rw [e, and_nat (a := x / 2 ^ r) (b := 1) (Nat.lt_of_le_of_lt (Nat.div_le_self _ _) hx) (by decide) _ 1 rfl rfl, Nat.and_one_is_mod, Nat.testBit_eq_decide_div_mod_eq]
  have : x / 2 ^ r % 2 = 0 ∨ x / 2 ^ r % 2 = 1 := by omega
  rcases this with h | h <;> rw [h] <;> rfl

theorem has_ok (a g n i : Nat) (f : Nat → Bool) (hi : i < n) (w : World) (H : MapB w a g n f) : Calls Tryd.prog 24 #[.pointer (some ⟨a, 0, none⟩), .int .i64 i] w fun e w' => e = .returned (.bool (f i)) ∧ Below w.heap.size w w' := by
  have hn := H.lt.2.2.2
  obtain ⟨⟨ws, hm, hb⟩, _⟩ := H
  have hl := hm.len
  obtain ⟨h1, h2⟩ := hm.get (i := i / 64) (by omega)
  refine has_core a g n ws.length i (ws.getD (i / 64) 0) (f i) hi hn hl w (hm.head.cell 0) (hm.head.cell 1) ((hm.row.cell (i / 64)).trans h1) ?_
  rw [bit_one _ h2, ← hb]
  rfl

end Go.Proofs.YtkfglbmhpdcfpaaDoor
