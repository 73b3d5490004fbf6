/-
  The reference's Play, all kinds; same.
-/
import Derived.Test.YtoppmpodiofhhaaDkR7
namespace Go.Proofs.Ytoppmpodiofhhaa
open Go.ChangeShapes Go.WideShapes Go.ChangeAt Go.RowKit
set_option linter.unusedVariables false
set_option linter.unusedSimpArgs false

theorem rplay_s {B r : Nat} {v : Value} {fs : List Pf} {st : Nat} (K A N : Int) (t : ByteArray) (x : Option Addr) (n c : Nat) (xs : List Int) (hK : K ≤ 4) (ht : t.size ≤ 1048576) (hst : st < 1000000000) (hsort : fs.Pairwise (fun a b => a.no < b.no)) {W : World} (hB : B ≤ W.heap.size) (R : RdAt B r v fs st W) :
    Calls Try.prog 14 #[.pointer (some ⟨r, 0, none⟩), .agg #[.int .i64 K, .int .i64 A, .int .i64 N, .string t, .slice x n c]] W fun e W' => RPost B r (actV ⟨fs, 0, st, true⟩ K A N t.data.toList xs) (actS ⟨fs, 0, st, true⟩ K A N t.data.toList xs).fs (actS ⟨fs, 0, st, true⟩ K A N t.data.toList xs).steps W e W' := by
  have tl := str_len t
  by_cases h0 : K < 1
  · have e1 : actV ⟨fs, 0, st, true⟩ K A N t.data.toList xs = 0 := by
      unfold actV
      rw [if_neg (by omega), if_neg (by omega), if_neg (by omega), if_neg (by omega), if_neg (by omega), if_neg (by omega), if_neg (by omega)]
    have e2 : actS ⟨fs, 0, st, true⟩ K A N t.data.toList xs = ⟨fs, 0, st, true⟩ := by
      unfold actS
      rw [if_neg (by omega), if_neg (by omega), if_neg (by omega), if_neg (by omega), if_neg (by omega), if_neg (by omega), if_neg (by omega)]
    rw [e1, e2]
    exact rplay_less K A N t x n c h0 R
  · have hK4 : 1 ≤ K ∧ K ≤ 4 := by omega
    have hap : ∀ (b : Pf → Bool) (u : List Pf → List Pf), reachV ⟨fs, 0, st, true⟩ A = 1 → chV ⟨fs, 0, st, true⟩ A b = 1 ∧ chS ⟨fs, 0, st, true⟩ A b u = ⟨fs, 0, st, true⟩ := by
      intro b u h
      unfold chV chS
      rw [h]
      exact ⟨if_pos (by decide), if_pos (by decide)⟩
    have out : reachV ⟨fs, 0, st, true⟩ A = 1 → actV ⟨fs, 0, st, true⟩ K A N t.data.toList xs = 1 ∧ actS ⟨fs, 0, st, true⟩ K A N t.data.toList xs = ⟨fs, 0, st, true⟩ := by
      intro h
      rcases (show K = 1 ∨ K = 2 ∨ K = 3 ∨ K = 4 by omega) with rfl | rfl | rfl | rfl
      · refine ⟨?_, ?_⟩
        · show apV _ _ _ = 1
          unfold apV
          rw [h]
          exact if_pos (by decide)
        · show apS _ _ _ = _
          unfold apS
          rw [h]
          exact if_pos (by decide)
      · exact hap _ _ h
      · exact hap _ _ h
      · exact hap _ _ h
    by_cases h1 : A < 1
    · have hr : reachV ⟨fs, 0, st, true⟩ A = 1 := by unfold reachV; rw [if_neg (by simp), if_pos (Or.inl h1)]
      rw [(out hr).1, (out hr).2]
      exact rplay_arg_lo K A N t x n c hK4 h1 R
    by_cases h2 : 1000000 < A
    · have hr : reachV ⟨fs, 0, st, true⟩ A = 1 := by unfold reachV; rw [if_neg (by simp), if_pos (Or.inr h2)]
      rw [(out hr).1, (out hr).2]
      exact rplay_arg_hi K A N t x n c hK4 h2 R
    have hr : reachV ⟨fs, 0, st, true⟩ A = 0 := by unfold reachV; rw [if_neg (by simp), if_neg (by omega)]
    have sv : ∀ gs : List Pf, stepV ⟨gs, 0, st, true⟩ = 0 := fun gs => by unfold stepV; exact if_neg (by simp)
    have ss : ∀ gs : List Pf, (stepS ⟨gs, 0, st, true⟩).fs = gs ∧ (stepS ⟨gs, 0, st, true⟩).steps = st + 1 := fun gs => by unfold stepS; rw [if_neg (by simp)]; exact ⟨rfl, rfl⟩
    have nr : ¬ reachV ⟨fs, 0, st, true⟩ A ≠ 0 := by rw [hr]; simp
    cases hg : getP fs A with
    | none =>
      by_cases hk1 : K = 1
      · subst hk1
        show Calls _ _ _ _ fun e W' => RPost B r (apV ⟨fs, 0, st, true⟩ A t.data.toList) (apS ⟨fs, 0, st, true⟩ A t.data.toList).fs (apS ⟨fs, 0, st, true⟩ A t.data.toList).steps W e W'
        unfold apV apS
        rw [if_neg nr, if_neg nr]
        simp only [hg]
        have hL : ¬ 1048576 < t.data.toList.length := by omega
        rw [if_neg hL, if_neg hL]
        by_cases h110 : fs.length = 110
        · rw [if_pos h110, if_pos h110]
          exact rplay_full A N t x n c (by omega) (by omega) hg ht (by omega) hB R
        · rw [if_neg h110, if_neg h110, sv, (ss _).1, (ss _).2]
          have e : apF ⟨fs, 0, st, true⟩ A t.data.toList = insP ⟨A, t.data.toList, 0⟩ fs := by unfold apF; simp only [hg]
          rw [e]
          exact rplay_new A N t x n c hst hsort (by omega) (by omega) hg ht (by have := R.len; omega) hB R
      · have miss : ∀ (b : Pf → Bool) (u : List Pf → List Pf), chV ⟨fs, 0, st, true⟩ A b = 7 ∧ chS ⟨fs, 0, st, true⟩ A b u = ⟨fs, 0, st, true⟩ := by
          intro b u
          unfold chV chS
          rw [if_neg nr, if_neg nr]
          simp only [hg]
          exact ⟨trivial, trivial⟩
        have q : actV ⟨fs, 0, st, true⟩ K A N t.data.toList xs = 7 ∧ actS ⟨fs, 0, st, true⟩ K A N t.data.toList xs = ⟨fs, 0, st, true⟩ := by
          rcases (show K = 2 ∨ K = 3 ∨ K = 4 by omega) with rfl | rfl | rfl
          · exact miss _ _
          · exact miss _ _
          · exact miss _ _
        rw [q.1, q.2]
        exact rplay_miss K A N t x n c (by omega) (by omega) (by omega) hg R
    | some f =>
      obtain ⟨pre, rr, hsp, hno, hpre⟩ := getP_split hg
      subst hsp
      subst hno
      have hrr := sorted_right hsort
      by_cases hk1 : K = 1
      · subst hk1
        show Calls _ _ _ _ fun e W' => RPost B r (apV ⟨pre ++ f :: rr, 0, st, true⟩ f.no t.data.toList) (apS ⟨pre ++ f :: rr, 0, st, true⟩ f.no t.data.toList).fs (apS ⟨pre ++ f :: rr, 0, st, true⟩ f.no t.data.toList).steps W e W'
        unfold apV apS
        rw [if_neg nr, if_neg nr]
        simp only [hg]
        by_cases hl : 1048576 < f.bs.length + t.data.toList.length
        · rw [if_pos hl, if_pos hl]
          exact rplay_long N t x n c hpre ht (by omega) hB R
        · rw [if_neg hl, if_neg hl, sv, (ss _).1, (ss _).2]
          have e : apF ⟨pre ++ f :: rr, 0, st, true⟩ f.no t.data.toList = pre ++ ⟨f.no, f.bs ++ t.data.toList, f.safe⟩ :: rr := by
            unfold apF
            simp only [hg]
            exact setP_mid hpre hrr
          rw [e]
          exact rplay_found N t x n c hst hpre (by omega) hB R
      · have hit : ∀ (b : Pf → Bool) (u : List Pf → List Pf), b f = false → chV ⟨pre ++ f :: rr, 0, st, true⟩ f.no b = 0 ∧ (chS ⟨pre ++ f :: rr, 0, st, true⟩ f.no b u).fs = u (pre ++ f :: rr) ∧ (chS ⟨pre ++ f :: rr, 0, st, true⟩ f.no b u).steps = st + 1 := by
          intro b u hb
          unfold chV chS
          rw [if_neg nr, if_neg nr]
          simp only [hg]
          rw [if_neg (by rw [hb]; decide), if_neg (by rw [hb]; decide), if_neg (by simp), sv]
          exact ⟨rfl, rfl, (ss _).2⟩
        rcases (show K = 2 ∨ K = 3 ∨ K = 4 by omega) with rfl | rfl | rfl
        · obtain ⟨q1, q2, q3⟩ := hit okB (syF f.no) rfl
          show Calls _ _ _ _ fun e W' => RPost B r (chV ⟨pre ++ f :: rr, 0, st, true⟩ f.no okB) (chS ⟨pre ++ f :: rr, 0, st, true⟩ f.no okB (syF f.no)).fs (chS ⟨pre ++ f :: rr, 0, st, true⟩ f.no okB (syF f.no)).steps W e W'
          rw [q1, q2, q3]
          have e : syF f.no (pre ++ f :: rr) = pre ++ ⟨f.no, f.bs, f.bs.length⟩ :: rr := setP_mid hpre hrr
          rw [e]
          exact rplay_sync N t x n c hst hpre hB R
        · show Calls _ _ _ _ fun e W' => RPost B r (chV ⟨pre ++ f :: rr, 0, st, true⟩ f.no (trB N)) (chS ⟨pre ++ f :: rr, 0, st, true⟩ f.no (trB N) (trF f.no N)).fs (chS ⟨pre ++ f :: rr, 0, st, true⟩ f.no (trB N) (trF f.no N)).steps W e W'
          by_cases hz : N < 0 ∨ (f.bs.length : Int) < N
          · have hb : trB N f = true := decide_eq_true hz
            have q : chV ⟨pre ++ f :: rr, 0, st, true⟩ f.no (trB N) = 1 ∧ chS ⟨pre ++ f :: rr, 0, st, true⟩ f.no (trB N) (trF f.no N) = ⟨pre ++ f :: rr, 0, st, true⟩ := by
              unfold chV chS
              rw [if_neg nr, if_neg nr]
              simp only [hg]
              rw [if_pos hb, if_pos hb]
              exact ⟨rfl, rfl⟩
            rw [q.1, q.2]
            by_cases hz1 : N < 0
            · exact rplay_bad_lo N t x n c hst hpre hz1 hB R
            · exact rplay_bad_hi N t x n c hst hpre (by omega) (by omega) hB R
          · have hb : trB N f = false := decide_eq_false hz
            obtain ⟨q1, q2, q3⟩ := hit (trB N) (trF f.no N) hb
            rw [q1, q2, q3]
            obtain ⟨z, rfl⟩ := Int.eq_ofNat_of_zero_le (show 0 ≤ N by omega)
            have e : trF f.no (z : Int) (pre ++ f :: rr) = pre ++ ⟨f.no, f.bs.take z, min f.safe z⟩ :: rr := by
              unfold trF
              rw [Int.toNat_natCast]
              exact setP_mid hpre hrr
            rw [e]
            by_cases hc : z < f.safe
            · exact rplay_trim1 t x n c hst hpre z (by omega) hc hB R
            · exact rplay_trim2 t x n c hst hpre z (by omega) hc hB R
        · obtain ⟨q1, q2, q3⟩ := hit okB (rmF f.no) rfl
          show Calls _ _ _ _ fun e W' => RPost B r (chV ⟨pre ++ f :: rr, 0, st, true⟩ f.no okB) (chS ⟨pre ++ f :: rr, 0, st, true⟩ f.no okB (rmF f.no)).fs (chS ⟨pre ++ f :: rr, 0, st, true⟩ f.no okB (rmF f.no)).steps W e W'
          rw [q1, q2, q3]
          have e : rmF f.no (pre ++ f :: rr) = pre ++ rr := delP_mid hpre hrr
          rw [e]
          exact rplay_remove N t x n c hst hpre hB R

end Go.Proofs.Ytoppmpodiofhhaa
