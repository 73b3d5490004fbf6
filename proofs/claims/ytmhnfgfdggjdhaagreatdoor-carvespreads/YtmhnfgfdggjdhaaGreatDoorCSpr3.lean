/-
  What each prefix of a spread answers.
-/
import Derived.Test.YtmhnfgfdggjdhaaGreatDoorCSpr2
namespace Go.Proofs.YtmhnfgfdggjdhaaGreatDoor
open Go.ChangeShapes Go.WideShapes Go.ChangeAt Go.RowKit
set_option linter.unusedVariables false
set_option linter.unusedSimpArgs false

/-- Does c lie between a and what ends ahead of t? -/
def hereI (v s : Bool) (a c t : Nat) : Int := if v = s ∧ a ≤ c ∧ c < t then 1 else 0

theorem hereI_01 (v s : Bool) (a c t : Nat) : 0 ≤ hereI v s a c t ∧ hereI v s a c t ≤ 1 := by
  unfold hereI; split <;> omega

/-- Where the j-th begins, and at the end where they end. -/
def stL (z : Nat) (L : List (Nat × Nat)) (j : Nat) : Nat := if h : j < L.length then (L[j]).1 else z + 1

theorem spr_bun {v s : Bool} {ah al zh zl ch cl : Int} {a z c W n : Nat} {L : List (Nat × Nat)} {xs : List Value} {st : Nat → Nat} (hW : widthA v = (W : Nat)) (hA : IsNum ah al a) (hZ : IsNum zh zl z) (hC : IsNum ch cl c) (hT : Tiles a (z + 1) L) (hE : ∀ p ∈ L, SpIs a z W 0 p) (hn : n = L.length) (hx : xs = cellsL v W L) (hst : st = stL z L) :
    ∀ j : Nat, j < n → ∃ (eh el eb : Int) (hb : Bool), X4 xs (j * 4) (.bool v) (.int .u64 eh) (.int .u64 el) (.int .i64 eb) ∧ Hid (∀ w', Calls Tryz.prog 13 #[pv v eh el eb] w' fun e w1 => e = .returned (.bool true) ∧ Below w'.heap.size w' w1) ∧ Hid (∀ w', Calls Tryz.prog 18 #[pv v eh el eb, av s ch cl] w' fun e w1 => e = .returned (.bool hb) ∧ Below w'.heap.size w' w1) ∧ Hid (∀ w', Calls Tryz.prog 16 #[pv v eh el eb] w' fun e w1 => e = .returned (av v eh el) ∧ Below w'.heap.size w' w1) ∧ hereI v s a c (st (j + 1)) = hereI v s a c (st j) + (if hb then 1 else 0) ∧ (j = 0 → eh = ah ∧ el = al) ∧ (j + 1 = n → Hid (∀ w', Calls Tryz.prog 17 #[pv v eh el eb] w' fun e w1 => e = .returned (av v zh zl) ∧ Below w'.heap.size w' w1)) ∧ (1 ≤ j → ∃ ph pl pb lh ll : Int, X4 xs ((j - 1) * 4) (.bool v) (.int .u64 ph) (.int .u64 pl) (.int .i64 pb) ∧ Hid (∀ w', Calls Tryz.prog 17 #[pv v ph pl pb] w' fun e w1 => e = .returned (av v lh ll) ∧ Below w'.heap.size w' w1) ∧ Hid (∀ w', Calls Tryz.prog 46 #[av v lh ll, nv 0 1] w' fun e w1 => e = .returned (.tuple #[av v eh el, .int .i64 0]) ∧ Below w'.heap.size w' w1) ∧ (eb = pb → -1000 ≤ eb ∧ eb ≤ 1000 ∧ ∃ uh ul rh rl : Int, Hid (∀ w', Calls Tryz.prog 48 #[av v eh el, .int .i64 (eb - 1)] w' fun e w1 => e = .returned (.tuple #[pv v uh ul (eb - 1), .int .i64 0]) ∧ Below w'.heap.size w' w1) ∧ Hid (∀ w', Calls Tryz.prog 12 #[pv v uh ul (eb - 1)] w' fun e w1 => e = .returned (.tuple #[pv v uh ul eb, pv v rh rl eb, .int .i64 0]) ∧ Below w'.heap.size w' w1) ∧ Hid (¬ uh = ph ∨ (uh = ph ∧ ¬ ul = pl)))) := by
  subst hn hx hst
  intro j hj
  have ent (i : Nat) (hi : i < L.length) := ent_of (v := v) hW (hE (L[i]) (List.getElem_mem hi))
  have E := ent j hj
  obtain ⟨t1, t2, t3⟩ := tiles_at hT j hj
  have hW2 := width_le v
  have pw := pow_pos2 (L[j]).2
  have lastE : lastN v (L[j]).1 ((W - (L[j]).2 : Nat) : Int) = (L[j]).1 + (2 ^ (L[j]).2 - 1) := by unfold lastN; rw [E.behind]
  have s0 : stL z L j = (L[j]).1 := by unfold stL; rw [dif_pos hj]
  have s1 : stL z L (j + 1) = (L[j]).1 + 2 ^ (L[j]).2 := by
    unfold stL
    by_cases q : j + 1 < L.length
    · rw [dif_pos q]; exact t2 q
    · rw [dif_neg q]; exact (t3 (by omega)).symm
  refine ⟨_, _, _, hasB v (L[j]).1 ((W - (L[j]).2 : Nat) : Int) s c, cellsL_at v W L j hj, fun w' => E.ok ▸ rpright_c E.num w', fun w' => has_c E.num hC w', fun w' => first_c E.num (Or.inl ⟨E.ok, rfl, rfl, rfl⟩) w', ?_, ?_, ?_, ?_⟩
  · rw [s0, s1]
    have al := E.is.2.2.2.2.1
    have key : (hasB v (L[j]).1 ((W - (L[j]).2 : Nat) : Int) s c = true) ↔ (v = s ∧ (L[j]).1 ≤ c ∧ c < (L[j]).1 + 2 ^ (L[j]).2) := by
      by_cases q : v = s
      · subst q
        rw [has_ends E.ok E.num.lt, lastE]
        constructor
        · intro h; exact ⟨rfl, h.1, by omega⟩
        · intro h; exact ⟨h.2.1, by omega⟩
      · constructor
        · intro h; exact absurd (has_parts h).1 q
        · intro h; exact absurd h.1 q
    unfold hereI
    by_cases q : hasB v (L[j]).1 ((W - (L[j]).2 : Nat) : Int) s c = true
    · obtain ⟨k1, k2, k3⟩ := key.1 q
      rw [q, if_pos ⟨k1, by omega, k3⟩, if_neg (fun h => by omega)]
      rfl
    · rw [Bool.not_eq_true] at q
      have nk := fun h => (Bool.eq_false_iff.1 q) (key.2 h)
      rw [q]
      by_cases k : v = s ∧ a ≤ c ∧ c < (L[j]).1
      · rw [if_pos k, if_pos ⟨k.1, k.2.1, by omega⟩]; rfl
      · rw [if_neg k, if_neg (fun h => by
          by_cases d : (L[j]).1 ≤ c
          · exact nk ⟨h.1, d, h.2.2⟩
          · exact k ⟨h.1, h.2.1, by omega⟩)]
        rfl
  · intro h0
    exact E.num.uniq (hA.cast (t1 h0).symm)
  · intro hl
    have := t3 hl
    intro w'
    refine last_ok E.num E.ok (hZ.cast ?_) w'
    rw [lastE]; omega
  · intro h1
    obtain ⟨i, rfl⟩ : ∃ i, j = i + 1 := ⟨j - 1, by omega⟩
    have P := ent i (by omega)
    obtain ⟨_, u2, _⟩ := tiles_at hT i (by omega)
    have nx := u2 hj
    have pp := pow_pos2 (L[i]).2
    have lastP : lastN v (L[i]).1 ((W - (L[i]).2 : Nat) : Int) = (L[i]).1 + (2 ^ (L[i]).2 - 1) := by unfold lastN; rw [P.behind]
    obtain ⟨lh, ll, hl⟩ := IsNum.ex (lastN_small P.ok P.num.lt).1
    have one : IsNum 0 1 1 := ⟨by omega, by omega, by omega, by omega, rfl⟩
    have okE := (fitsB_parts (okP_parts E.ok).1).1
    have sum : lastN v (L[i]).1 ((W - (L[i]).2 : Nat) : Int) + 1 = (L[i + 1]).1 := by rw [lastP, nx]; omega
    refine ⟨_, _, _, lh, ll, cellsL_at v W L i (by omega), fun w' => last_ok P.num P.ok hl w', fun w' => plus_ok hl one (lastN_small P.ok P.num.lt).2 (by rw [sum]; exact E.num.lt) (by rw [sum]; exact okE) (E.num.cast sum.symm) w', ?_⟩
    intro eq
    have kk : (L[i]).2 = (L[i + 1]).2 := by
      have a1 := P.is.1
      have a2 := E.is.1
      omega
    obtain ⟨nh, lt⟩ := spr_pair P.is E.is nx kk
    have b1 : ((W - (L[i + 1]).2 : Nat) : Int) - 1 = ((W - (L[i + 1]).2 - 1 : Nat) : Int) := by omega
    have be : behindP v (((W - (L[i + 1]).2 : Nat) : Int) - 1) = (L[i + 1]).2 + 1 := by unfold behindP; omega
    have fi : fitsB v (L[i + 1]).1 (((W - (L[i + 1]).2 : Nat) : Int) - 1) = true := by
      unfold fitsB; rw [okE, decide_eq_true (by omega), decide_eq_true (by omega)]; rfl
    obtain ⟨uh, ul, hu⟩ := IsNum.ex (n := ofN v (L[i + 1]).1 (((W - (L[i + 1]).2 : Nat) : Int) - 1)) (Nat.lt_of_le_of_lt (ofN_le _ _ _) E.num.lt)
    have okU : okP v (ofN v (L[i + 1]).1 (((W - (L[i + 1]).2 : Nat) : Int) - 1)) (((W - (L[i + 1]).2 : Nat) : Int) - 1) = true := has_ok (has_mk fi rfl)
    have ltW : ((W - (L[i + 1]).2 : Nat) : Int) - 1 < widthA v := by omega
    obtain ⟨rh, rl, hr⟩ := IsNum.ex (Nat.lt_of_le_of_lt (high_ok okU ltW hu.lt).2.2.2 (lastN_small okU hu.lt).1)
    refine ⟨by omega, by omega, uh, ul, rh, rl, fun w' => of_ok E.num fi hu w', fun w' => ?_, ?_⟩
    · have := half_ok hu okU ltW hr w'
      rw [Int.sub_add_cancel] at this
      exact this
    · have ne : ¬ ofN v (L[i + 1]).1 (((W - (L[i + 1]).2 : Nat) : Int) - 1) = (L[i]).1 := by
        unfold ofN; rw [be]; exact nh
      show _ ∨ _
      by_cases q1 : uh = (((L[i]).1 / 18446744073709551616 : Nat) : Int)
      · exact Or.inr ⟨q1, fun q2 => ne ((hu.inj P.num).2 ⟨q1, q2⟩)⟩
      · exact Or.inl q1
end Go.Proofs.YtmhnfgfdggjdhaaGreatDoor
