/-
  Trim, Remove.
-/
import Derived.Test.YtoppmpodiofhhaaDk3
namespace Go.Proofs.Ytoppmpodiofhhaa
open Go.ChangeShapes Go.WideShapes Go.ChangeAt Go.RowKit
set_option linter.unusedVariables false
set_option linter.unusedSimpArgs false

set_option maxHeartbeats 1000000 in
theorem trim_s {B d : Nat} (s : DS) (n z : Int) (hst : s.steps < 1000000000) {W : World} (hB : B ≤ W.heap.size) (S : DkS B d s W) :
    Calls Try.prog 23 #[.pointer (some ⟨d, 0, none⟩), .int .i64 n, .int .i64 z] W fun e W' => Left B d (chV s n (trB z)) (chS s n (trB z) (trF n z)) W e W' := by
  obtain ⟨m, l, A, hv⟩ := S
  have FC := hide (find_c s n A)
  have AH := hide A
  have VH := hide hv
  unfold findV findE atV at FC
  unfold Left chV chS
  by_cases h : reachV s n = 0
  · rw [if_neg (by omega), if_neg (by omega)] at FC
    rw [if_neg (by omega), if_neg (by omega), ← hv, getL_view]
    cases hg : getL l n with
    | none =>
      rw [hg] at FC
      simp only [Option.map_none] at FC ⊢
      clear A hv h hg
      go_enter Try.func23, Try.ntmps23
      go_wp2_with fail
      refine FC.out.mono ?_
      rintro e w1 ⟨rfl, rfl⟩
      clear FC
      go_wp2_with fail
      go_ret
      exact ⟨rfl, ⟨m, l, AH.out, VH.out⟩, Ch.refl _ _⟩
    | some f =>
      rw [hg] at FC
      simp only [Option.map_some] at FC ⊢
      obtain ⟨hm, hn⟩ := getL_mem hg
      have F := A.fl f hm
      have c0 : W.cell? ⟨f.p, 0, none⟩ = some f.v := F.hd.cell 0
      have hl := F.hd.lt
      have LV := len_val F.row
      have KK := hide (show (f.bs.length : Int) ≤ 1048576 by have := F.len; omega)
      unfold trB
      rw [show (Fl.pf f).bs = f.bs from rfl]
      by_cases hz : z < 0 ∨ (f.bs.length : Int) < z
      · rw [if_pos (decide_eq_true hz), if_pos (decide_eq_true hz)]
        obtain ⟨p, hp⟩ : ∃ p, f.p = p := ⟨_, rfl⟩
        obtain ⟨v, hfv⟩ : ∃ v, f.v = v := ⟨_, rfl⟩
        obtain ⟨k, hk⟩ : ∃ k : Int, (f.bs.length : Int) = k := ⟨_, rfl⟩
        rw [hp] at c0 hl FC
        rw [hfv] at c0 LV
        rw [hk] at LV hz
        clear A hv h hg hm hn hst F hp hfv hk KK
        by_cases hz1 : z < 0
        · go_enter Try.func23, Try.ntmps23
          go_wp2_with fail
          refine FC.out.mono ?_
          rintro e w1 ⟨rfl, rfl⟩
          clear FC
          go_wp2_with fail
          go_ret
          exact ⟨rfl, ⟨m, l, AH.out, VH.out⟩, Ch.refl _ _⟩
        · have hz2 : k < z := by omega
          clear hz
          go_enter Try.func23, Try.ntmps23
          go_wp2_with fail
          refine FC.out.mono ?_
          rintro e w1 ⟨rfl, rfl⟩
          clear FC
          go_wp2_with fail
          go_ret
          exact ⟨rfl, ⟨m, l, AH.out, VH.out⟩, Ch.refl _ _⟩
      · rw [if_neg (fun c => hz (of_decide_eq_true c)), if_neg (fun c => hz (of_decide_eq_true c))]
        obtain ⟨x, rfl⟩ := Int.eq_ofNat_of_zero_le (show 0 ≤ z by omega)
        have hx : x ≤ f.bs.length := by omega
        have SC := hide (step_c s hst A)
        have TC := hide (fun (W1 : World) (A1 : DkAt B d m l (stepS s).fuse (stepS s).steps (stepS s).on W1) (h1 : B ≤ W1.heap.size) => trim_c f x hx (A1.fl f hm) h1)
        have TA := hide (fun (W1 W2 : World) (A1 : DkAt B d m l (stepS s).fuse (stepS s).steps (stepS s).on W1) (T : TrimPost B f x W1 W2) => trim_at A1 hm T)
        have VV : Hid (∀ v', (setL l n (fun g => ⟨g.no, g.p, v', g.bs.take x, min g.safe x⟩)).map Fl.pf = trF n (x : Int) (l.map Fl.pf)) := fun v' => by
          unfold trF
          rw [Int.toNat_natCast, ← hn]
          exact setL_is A.lies hm rfl
        rw [hn] at TA
        unfold stepV at SC ⊢
        have e1 : (stepS s).fs = s.fs := by unfold stepS; split <;> rfl
        have hz1 : ¬ (x : Int) < 0 := by omega
        have hz2 : ¬ (f.bs.length : Int) < (x : Int) := by omega
        have HB := hide hB
        by_cases hf : s.fuse = 1
        · rw [if_pos hf] at SC
          rw [if_pos hf, if_pos hf]
          obtain ⟨p, hp⟩ : ∃ p, f.p = p := ⟨_, rfl⟩
          obtain ⟨v, hfv⟩ : ∃ v, f.v = v := ⟨_, rfl⟩
          obtain ⟨k, hk⟩ : ∃ k : Int, (f.bs.length : Int) = k := ⟨_, rfl⟩
          obtain ⟨zi, hzi⟩ : ∃ zi : Int, (x : Int) = zi := ⟨_, rfl⟩
          rw [hp] at c0 hl FC
          rw [hfv] at c0 LV
          rw [hk] at LV hz2
          rw [hzi] at hz1 hz2 ⊢
          clear A hv h hg hm hn hf hst F hp hfv hk KK hz hx TC TA VV hB hzi
          go_enter Try.func23, Try.ntmps23
          go_wp2_with fail
          refine FC.out.mono ?_
          rintro e w1 ⟨rfl, rfl⟩
          clear FC
          go_wp2_with fail
          refine SC.out.mono ?_
          rintro e w2 ⟨rfl, hS, hk⟩
          have S2 := hide hS
          have K2 := hide hk
          have E1 := hide e1
          clear hS hk SC e1
          go_wp2_with fail
          go_ret
          exact ⟨rfl, ⟨m, l, S2.out, VH.out.trans E1.out.symm⟩, K2.out⟩
        · rw [if_neg hf] at SC
          rw [if_neg hf, if_neg hf]
          obtain ⟨p, hp⟩ : ∃ p, f.p = p := ⟨_, rfl⟩
          obtain ⟨v, hfv⟩ : ∃ v, f.v = v := ⟨_, rfl⟩
          obtain ⟨k, hk⟩ : ∃ k : Int, (f.bs.length : Int) = k := ⟨_, rfl⟩
          rw [hp] at c0 hl FC TC
          rw [hfv] at c0 LV
          rw [hk] at LV hz2
          clear A hv h hg hm hn hf hst F hp hfv hk KK hz hx hB
          go_enter Try.func23, Try.ntmps23
          go_wp2_with fail
          refine FC.out.mono ?_
          rintro e w1 ⟨rfl, rfl⟩
          clear FC
          go_wp2_with fail
          refine SC.out.mono ?_
          rintro e w2 ⟨rfl, hS, hk⟩
          have S2 := hide hS
          have K2 := hide hk
          have B2 := hide (Nat.le_trans HB.out hk.size)
          clear hS hk SC e1
          go_wp2_with fail
          refine (TC.out w2 S2.out B2.out).mono ?_
          rintro e w3 ⟨rfl, hT⟩
          have T3 := hide (TA.out w2 w3 S2.out hT)
          clear hT TC TA
          go_wp2_with fail
          go_ret
          obtain ⟨v', hA, hC⟩ := T3.out
          exact ⟨rfl, ⟨m, _, hA, VV.out v'⟩, K2.out.next hC⟩
  · rw [if_pos h, if_pos h] at FC
    rw [if_pos h, if_pos h]
    generalize reachV s n = r at *
    have hb : (r != 0) = true := by simpa using h
    clear A hv
    go_enter Try.func23, Try.ntmps23
    go_wp2_with fail
    refine FC.out.mono ?_
    rintro e w1 ⟨rfl, rfl⟩
    clear FC
    go_wp2_with fail
    go_ret
    exact ⟨rfl, ⟨m, l, AH.out, VH.out⟩, Ch.refl _ _⟩

set_option maxHeartbeats 1000000 in
theorem remove_s {B d : Nat} (s : DS) (n : Int) (hst : s.steps < 1000000000) {W : World} (S : DkS B d s W) :
    Calls Try.prog 24 #[.pointer (some ⟨d, 0, none⟩), .int .i64 n] W fun e W' => Left B d (chV s n okB) (chS s n okB (rmF n)) W e W' := by
  obtain ⟨m, l, A, hv⟩ := S
  have FC := hide (find_c s n A)
  have AH := hide A
  have VH := hide hv
  unfold findV findE atV at FC
  unfold Left chV chS
  by_cases h : reachV s n = 0
  · obtain ⟨n1, n2, -⟩ := reach_zero h
    rw [if_neg (by omega), if_neg (by omega)] at FC
    rw [if_neg (by omega), if_neg (by omega), ← hv, getL_view]
    cases hg : getL l n with
    | none =>
      rw [hg] at FC
      simp only [Option.map_none] at FC ⊢
      clear A hv h hg
      go_enter Try.func24, Try.ntmps24
      go_wp2_with fail
      refine FC.out.mono ?_
      rintro e w1 ⟨rfl, rfl⟩
      clear FC
      go_wp2_with fail
      go_ret
      exact ⟨rfl, ⟨m, l, AH.out, VH.out⟩, Ch.refl _ _⟩
    | some f =>
      rw [hg] at FC
      simp only [Option.map_some, okB, Bool.false_eq_true, if_false] at FC ⊢
      have SC := hide (step_c s hst A)
      have KO := keyOfInt n (by omega)
      have VV := hide (delL_view l n)
      unfold stepV at SC ⊢
      have e1 : (stepS s).fs = s.fs := by unfold stepS; split <;> rfl
      by_cases hf : s.fuse = 1
      · rw [if_pos hf] at SC
        rw [if_pos hf, if_pos hf]
        clear A hv h hg hf hst VV
        go_enter Try.func24, Try.ntmps24
        go_wp2_with fail
        refine FC.out.mono ?_
        rintro e w1 ⟨rfl, rfl⟩
        clear FC
        go_wp2_with fail
        refine SC.out.mono ?_
        rintro e w2 ⟨rfl, hS, hk⟩
        have S2 := hide hS
        have K2 := hide hk
        have E1 := hide e1
        clear hS hk SC e1
        go_wp2_with fail
        go_ret
        exact ⟨rfl, ⟨m, l, S2.out, VH.out.trans E1.out.symm⟩, K2.out⟩
      · rw [if_neg hf] at SC
        rw [if_neg hf, if_neg hf]
        clear A hv h hg hf hst
        go_enter Try.func24, Try.ntmps24
        go_wp2_with fail
        refine FC.out.mono ?_
        rintro e w1 ⟨rfl, rfl⟩
        clear FC
        go_wp2_with fail
        refine SC.out.mono ?_
        rintro e w2 ⟨rfl, hS, hk⟩
        obtain ⟨c0, -, -, -, -, -, -, hl⟩ := hS.cells
        have S2 := hide hS
        have M2 := hide hS.map
        have K2 := hide hk
        clear hS hk SC e1
        go_wp2_with (first | (at_delete; refine wpList_delete_own _ rfl _ _ 49 3 rfl 53 keyInt Try.underlying49 ptrElem m l.length (mapL l) rfl M2.out _ _ rfl KO ?_; intro w3 hown hturn))
        have S3 := hide (S2.out.map_del n hturn.grown hown)
        have K3 := hide (K2.out.next (S2.out.mineMap hturn.grown))
        clear hown hturn S2 M2 K2
        go_wp2_with fail
        go_ret
        exact ⟨rfl, ⟨m, _, S3.out, VV.out⟩, K3.out⟩
  · rw [if_pos h, if_pos h] at FC
    rw [if_pos h, if_pos h]
    generalize reachV s n = r at *
    have hb : (r != 0) = true := by simpa using h
    clear A hv
    go_enter Try.func24, Try.ntmps24
    go_wp2_with fail
    refine FC.out.mono ?_
    rintro e w1 ⟨rfl, rfl⟩
    clear FC
    go_wp2_with fail
    go_ret
    exact ⟨rfl, ⟨m, l, AH.out, VH.out⟩, Ch.refl _ _⟩

end Go.Proofs.Ytoppmpodiofhhaa
