/-
  What leftOut of package addr returns.
-/
import Derived.Test.YtbecaepagachpaaGreatDoorAddrP
namespace Go.Proofs.YtbecaepagachpaaGreatDoor
open Go.ChangeShapes Go.WideShapes Go.ChangeAt Go.RowKit
set_option linter.unusedVariables false
set_option linter.unusedSimpArgs false

/-- The longest row of noughts so far and how long it is, at a place, with the place at which the present row began. -/
def loF : List Nat → Nat → Nat → Nat → Nat → Nat × Nat
  | [], _, b, m, _ => (b, m)
  | g :: r, k, b, m, s => if g ≠ 0 then loF r (k + 1) b m (k + 1) else if m < k + 1 - s then loF r (k + 1) s (k + 1 - s) s else loF r (k + 1) b m s

/-- The row that is left out: from, to. -/
def loR (gs : List Nat) : Nat × Nat := if (loF gs 0 0 1 0).2 = 1 then (0, 0) else ((loF gs 0 0 1 0).1, (loF gs 0 0 1 0).1 + (loF gs 0 0 1 0).2)

theorem hexT_zero : hexT 0 = ⟨#[48]⟩ := by decide +kernel

theorem hexI_48 {x : Int} (h0 : 0 ≤ x) (h : hexI x = 48) : x = 0 := by
  unfold hexI at h
  split at h <;> omega

theorem hexT_ne {n : Nat} (h : n ≠ 0) : hexT n ≠ ⟨#[48]⟩ := by
  intro c
  have sz := congrArg ByteArray.size c
  unfold hexT at sz c
  rw [strOfNums_size, lowH_length] at sz
  have e : hexLen n = 1 := sz
  rw [e] at c
  have d : (strOfNums (lowH n 1)).data.toList = [48] := by rw [c]
  rw [strOfNums_data] at d
  simp only [lowH, List.map_cons, List.map_nil, List.cons.injEq, and_true, Nat.pow_zero, Nat.div_one] at d
  have b := hexI_bd ((n % 16 : Nat) : Int) (by omega) (by omega)
  have e2 : hexI ((n % 16 : Nat) : Int) = 48 := by
    have := congrArg UInt8.toNat d
    rw [UInt8.toNat_ofNat'] at this
    have e48 : (48 : UInt8).toNat = 48 := rfl
    rw [e48] at this
    omega
  have z := hexI_48 (by omega) e2
  unfold hexLen at e
  split at e
  · omega
  · split at e <;> first | omega | (split at e <;> omega)

theorem str_ne {s : ByteArray} {l : List UInt8} (h : s ≠ ⟨l.toArray⟩) : (s.toList == l) = false := by
  rw [beq_eq_false_iff_ne, Lib.toList_data]
  intro c
  apply h
  obtain ⟨⟨d⟩⟩ := s
  simp at c
  rw [c]

set_option maxHeartbeats 1600000 in
theorem leftOut_w (gs : List Nat) (hn : gs.length = 8) (g cap : Nat) (w : World) (hcell : ∀ j, j < 8 → w.cell? ⟨g, j, none⟩ = some (.string (hexT (gs.getD j 0)))) :
    Calls Tryz.prog 86 #[.slice (some ⟨g, 0, none⟩) 8 cap] w fun e w' => ∃ p q : Int, e = .returned (.tuple #[.int .i64 p, .int .i64 q]) ∧ Hid (p = ((loR gs).1 : Int) ∧ q = ((loR gs).2 : Int)) ∧ w' = w := by
  go_enter Tryz.func86, Tryz.ntmps86
  go_wp2_with fail
  go_loop [4, 5, 6, 12] (fun b m s i => ∃ (k B M S : Nat), k ≤ 8 ∧ b = .int .i64 B ∧ m = .int .i64 M ∧ s = .int .i64 S ∧ i = .int .i64 k ∧ B ≤ 8 ∧ M ≤ 8 ∧ 1 ≤ M ∧ S ≤ k ∧ Hid (loF gs 0 0 1 0 = loF (gs.drop k) k B M S)) (fun _ _ _ i => 8 - (intOf i).toNat)
  case atStart => exact ⟨0, 0, 1, 0, by omega, rfl, rfl, rfl, rfl, by omega, by omega, by omega, by omega, rfl⟩
  case round =>
    obtain ⟨k, B, M, S, hk, rfl, rfl, rfl, rfl, hB, hM, hM1, hS, hh⟩ := hrel
    by_cases hlt : k < 8
    · have hki : (k : Int) < 8 := by omega
      have hc := hcell k hlt
      have hdrop : gs.drop k = gs.getD k 0 :: gs.drop (k + 1) := by
        rw [List.drop_eq_getElem_cons (by omega), List.getD_eq_getElem?_getD, List.getElem?_eq_getElem (by omega)]; rfl
      rw [hdrop] at hh
      generalize gs.getD k 0 = n at hc hh
      clear hcell hdrop
      by_cases h0 : n = 0
      · subst h0
        rw [hexT_zero] at hc
        by_cases h1 : M < k + 1 - S
        · have hh' : Hid (loF gs 0 0 1 0 = loF (gs.drop (k + 1)) (k + 1) S (k + 1 - S) S) := by show _ = _; rw [hh.out]; simp [loF, h1]
          have h1' : (M : Int) < (k : Int) + 1 - (S : Int) := by omega
          clear hh h1
          go_wp2
          go_round
          case measure => simp [intOf]; omega
          case rel => exact ⟨k + 1, S, k + 1 - S, S, by omega, rfl, by congr 1; omega, rfl, by go_num, by omega, by omega, by omega, by omega, hh'⟩
        · have hh' : Hid (loF gs 0 0 1 0 = loF (gs.drop (k + 1)) (k + 1) B M S) := by show _ = _; rw [hh.out]; simp [loF, h1]
          have h1' : ¬ (M : Int) < (k : Int) + 1 - (S : Int) := by omega
          clear hh h1
          go_wp2
          go_round
          case measure => simp [intOf]; omega
          case rel => exact ⟨k + 1, B, M, S, by omega, rfl, rfl, rfl, by go_num, by omega, by omega, by omega, by omega, hh'⟩
      · have hh' : Hid (loF gs 0 0 1 0 = loF (gs.drop (k + 1)) (k + 1) B M (k + 1)) := by show _ = _; rw [hh.out]; simp [loF, h0]
        have hne : ((hexT n).toList == [48]) = false := str_ne (hexT_ne h0)
        clear hh h0
        go_wp2
        go_round
        case measure => simp [intOf]; omega
        case rel => exact ⟨k + 1, B, M, k + 1, by omega, rfl, rfl, by go_num, by go_num, by omega, by omega, by omega, by omega, hh'⟩
    · have hki : ¬ (k : Int) < 8 := by omega
      have hh' : Hid (loF gs 0 0 1 0 = (B, M)) := by
        have := hh.out
        rw [List.drop_eq_nil_of_le (by omega)] at this
        exact this
      by_cases h1 : M = 1
      · subst h1
        clear hh
        go_wp2
        go_ret2
        refine ⟨_, _, rfl, ?_, rfl⟩
        show _ ∧ _
        unfold loR
        rw [hh'.out]
        exact ⟨rfl, rfl⟩
      · have h1' : ((M : Int) == 1) = false := by rw [beq_eq_false_iff_ne]; omega
        clear hh
        go_wp2
        go_ret2
        refine ⟨_, _, rfl, ?_, rfl⟩
        show _ ∧ _
        unfold loR
        rw [hh'.out, if_neg h1]
        exact ⟨rfl, by simp⟩
end Go.Proofs.YtbecaepagachpaaGreatDoor
