/-
  CarveSpreads, for every three addresses.
-/
import Derived.Test.YtmhnfgfdggjdhaaGreatDoorCSpr4
namespace Go.Proofs.YtmhnfgfdggjdhaaGreatDoor
open Go.ChangeShapes Go.WideShapes Go.ChangeAt Go.RowKit
set_option linter.unusedVariables false
set_option linter.unusedSimpArgs false

theorem in_here {v s : Bool} {a c z : Nat} (oz : okA v z = true) : (okA s c = true ∧ cmpA v s a c ≤ 0 ∧ cmpA s v c z ≤ 0) ↔ hereI v s a c (z + 1) = 1 := by
  unfold hereI cmpA
  by_cases q : v = s
  · subst q
    simp only [if_true, cmpI_le, Int.ofNat_le, true_and]
    constructor
    · rintro ⟨_, h1, h2⟩
      rw [if_pos ⟨h1, by omega⟩]
    · intro h
      by_cases k : a ≤ c ∧ c < z + 1
      · exact ⟨okA_le oz (by omega), k.1, by omega⟩
      · rw [if_neg k] at h
        exact absurd h (by decide)
  · cases v <;> cases s <;> first | exact absurd rfl q | simp

theorem spr_ok {v s : Bool} {ah al zh zl ch cl : Int} {a z c : Nat} (hA : IsNum ah al a) (hZ : IsNum zh zl z) (hC : IsNum ch cl c) (oa : okA v a = true) (oz : okA v z = true) (haz : a ≤ z) (w : World) (hL : LW w)
    (aw : ∀ w, LW w → Calls Tryz.prog 29 #[] w fun e w' => e = .returned (.bool true) ∧ Below w.heap.size w w') :
    Calls Tryz.prog 10 #[av v ah al, av v zh zl, av s ch cl] w fun e w' => e = .returned (.bool true) ∧ Below w.heap.size w w' := by
  have hW2 := width_le v
  obtain ⟨W, hW⟩ : ∃ W : Nat, widthA v = (W : Nat) := ⟨(widthA v).toNat, by omega⟩
  have zW : z < 2 ^ W := by
    cases v
    · obtain rfl : W = 32 := by have : widthA false = 32 := rfl; omega
      simpa [okA] using oz
    · obtain rfl : W = 128 := by have : widthA true = 128 := rfl; omega
      simpa using hZ.lt
  have pW := pow_pos2 W
  have T := sp_tiles (a := a) (z := z) (k := W) (n := 0) (by omega) haz
  rw [show max a 0 = a by omega, show min (z + 1) (0 + 2 ^ W) = z + 1 by omega] at T
  have E := sp_each (a := a) (z := z) (k := W) (n := 0) (Nat.zero_mod _)
  have LN := sp_length (a := a) (z := z) (k := W) (n := 0)
  have SP := fun w' => spread_ok hW hA hZ oa oz haz w'
  obtain ⟨L, hLL⟩ : ∃ L, L = spL a z W 0 := ⟨_, rfl⟩
  rw [← hLL] at T E LN
  have n0 : 0 < L.length := by
    cases L with
    | nil => have : a = z + 1 := T; omega
    | cons p r => simp
  have g1 : ¬ 2 * (W : Int) < ((L.length : Nat) : Int) := by omega
  have g2 : (W : Int) = 32 ∨ (W : Int) = 128 := by omega
  have g3 : L.length ≤ 256 := by omega
  have BU := spr_bun (v := v) (s := s) hW hA hZ hC T E rfl rfl rfl
  obtain ⟨eh, el, eb, hb, x4, _, _, FI, _, h0, _, _⟩ := BU 0 n0
  obtain ⟨rfl, rfl⟩ := h0 rfl
  obtain ⟨fh, fl, fb, hb2, y4, _, _, _, _, _, hl, _⟩ := BU (L.length - 1) (by omega)
  have LZ := hl (by omega)
  have s0 : stL z L 0 = a := by
    unfold stL; rw [dif_pos n0]; exact (tiles_at T 0 n0).1 rfl
  have sn : stL z L L.length = z + 1 := by unfold stL; rw [dif_neg (by omega)]
  refine spr_loop (s := s) (a := a) (c := c) (z := z) (n := L.length) (xs := cellsL v W L) (st := stL z L) (M := ((L.length : Nat) : Int) - 1) (WI := (W : Int)) (m := cmpI (a : Int) (z : Int)) (m1 := cmpA v s a c) (m2 := cmpA s v c z) (ri := okA s c) n0 rfl g1 g2 ?_ g3 x4 ?_ ?_ (fun w' => oa ▸ aright_c hA w') (fun w' => oz ▸ aright_c hZ w') ?_ (fun w' => width_lit v _ hW _ _ w') FI LZ BU ?_ (fun w' => aright_c hC w') ?_ ?_ ?_ w hL aw
  · have := cmpI_le.2 (Int.ofNat_le.2 haz)
    omega
  · rw [show (((L.length : Nat) : Int) - 1).toNat = L.length - 1 by omega]
    exact y4
  · intro w'
    refine (SP w').mono ?_
    rintro e w1 ⟨val, rfl, hO, hB⟩
    rw [← hLL] at hO
    rcases hO.2 with ⟨_, h⟩ | ⟨g, cap, cur, rfl, _⟩
    · omega
    · refine ⟨g, cap, rfl, ⟨(hO.lt g rfl).2, fun j u hj => ?_⟩, hB⟩
      have := hO.cells (g := g) rfl j u hj
      rw [show (⟨g, 0, none⟩ : Addr).add j = ⟨g, j, none⟩ by unfold Addr.add; split <;> simp_all] at this
      exact this
  · intro w'
    refine (cmp_one hA hZ w').mono ?_
    rintro e w1 ⟨m, rfl, hm, hb⟩
    exact ⟨by rw [hm.out], hb⟩
  · show _ = _
    rw [s0]
    unfold hereI
    rw [if_neg (fun h => by omega)]
  · intro w'
    refine (acmp_c hA hC w').mono ?_
    rintro e w1 ⟨m, rfl, hm, hb⟩
    exact ⟨by rw [hm], hb⟩
  · intro w'
    refine (acmp_c hC hZ w').mono ?_
    rintro e w1 ⟨m, rfl, hm, hb⟩
    exact ⟨by rw [hm], hb⟩
  · show _ ↔ _
    rw [sn]
    exact in_here oz

theorem spr_walk {v u s : Bool} {ah al zh zl ch cl : Int} {a z c : Nat} (hA : IsNum ah al a) (hZ : IsNum zh zl z) (hC : IsNum ch cl c) (w : World) (hL : LW w)
    (aw : ∀ w, LW w → Calls Tryz.prog 29 #[] w fun e w' => e = .returned (.bool true) ∧ Below w.heap.size w w') :
    Calls Tryz.prog 10 #[av v ah al, av u zh zl, av s ch cl] w fun e w' => e = .returned (.bool true) ∧ Below w.heap.size w w' := by
  by_cases h : okA v a = true ∧ okA u z = true ∧ v = u ∧ a ≤ z
  · obtain ⟨h1, h2, rfl, h4⟩ := h
    exact spr_ok hA hZ hC h1 h2 h4 w hL aw
  · exact spr_no hA hZ h w hL aw
end Go.Proofs.YtmhnfgfdggjdhaaGreatDoor
