/-
  The walk of BitmapTakes.
-/
import Derived.Test.YtkfglbmhpdcfpaaDoorBmT
namespace Go.Proofs.YtkfglbmhpdcfpaaDoor
open Go.ChangeShapes Go.WideShapes Go.ChangeAt Go.RowKit
set_option linter.unusedVariables false
set_option linter.unusedSimpArgs false

/-- What the argument's calls are, cell by cell. -/
def ActsAt (W : World) (x : Option Addr) (len b o : Nat) : Prop := (x = some ⟨b, o, none⟩ ∨ len = 0) ∧ len ≤ 9223372036854775807 ∧ ∀ i, i < len → ∃ K A B : Int, (-9223372036854775808 ≤ A ∧ A ≤ 9223372036854775807) ∧ W.cell? ⟨b, o + i * 3, none⟩ = some (.int .i64 K) ∧ W.cell? ⟨b, o + i * 3 + 1, none⟩ = some (.int .i64 A) ∧ W.cell? ⟨b, o + i * 3 + 2, none⟩ = some (.int .i64 B)

theorem cell_lt {W : World} {b o : Nat} {v : Value} (h : W.cell? ⟨b, o, none⟩ = some v) : b < W.heap.size := by
  apply Classical.byContradiction
  intro c
  simp only [World.cell?] at h
  rw [Array.getElem?_eq_none (by omega)] at h
  cases h

theorem ActsAt.below {w W : World} {x : Option Addr} {len b o : Nat} (h : ActsAt w x len b o) (k : Below w.heap.size w W) : ActsAt W x len b o := by
  refine ⟨h.1, h.2.1, fun i hi => ?_⟩
  obtain ⟨K, A, B, hA, h0, h1, h2⟩ := h.2.2 i hi
  have l := cell_lt h0
  exact ⟨K, A, B, hA, (k.cell (p := ⟨b, _, none⟩) l).trans h0, (k.cell (p := ⟨b, _, none⟩) l).trans h1, (k.cell (p := ⟨b, _, none⟩) l).trans h2⟩

theorem cnt_put {f : Nat → Bool} {n p : Nat} (hp : p < n) (hf : f p = false) : cnt (upd f p true) n = cnt f n + 1 := by
  have e : n = p + (1 + (n - p - 1)) := by omega
  rw [e, cnt_add, cnt_add, cnt_add f, cnt_add]
  have e1 : cnt (upd f p true) p = cnt f p := cnt_congr (fun k hk => by unfold upd; rw [if_neg (by omega)])
  have e2 : cnt (fun j => upd f p true (p + j)) 1 = 1 := by simp [cnt, upd]
  have e3 : cnt (fun j => f (p + j)) 1 = 0 := by simp [cnt, hf]
  have e4 : cnt (fun j => upd f p true (p + (1 + j))) (n - p - 1) = cnt (fun j => f (p + (1 + j))) (n - p - 1) := cnt_congr (fun k hk => by unfold upd; rw [if_neg (by omega)])
  rw [e1, e2, e3, e4]
  omega

/-- While one is free there is a next one; then none. -/
theorem nx_free {f : Nat → Bool} {n : Nat} (i : Int) (h : cnt f n < n) : ∃ p, p < n ∧ f p = false ∧ nxI f n i = (p : Int) ∧ nxO f n i = true := by
  have hn : 0 < n := by omega
  cases e : nextF f n (i.toNat % n) with
  | none =>
    have := (cnt_full (p := f) (n := n)).2 (nextF_none (Nat.mod_lt _ hn) e)
    omega
  | some p =>
    obtain ⟨h1, h2⟩ := nextF_is (Nat.mod_lt _ hn) e
    obtain ⟨h3, h4⟩ := nx_some (by omega) rfl e
    exact ⟨p, h1, h2, h3, h4⟩

theorem nx_over {f : Nat → Bool} {n : Nat} (i : Int) (h : cnt f n = n) : nxO f n i = false := by
  by_cases h0 : n = 0
  · unfold nxO; rw [if_pos h0]
  · have all := cnt_full.1 h
    have hn : 0 < n := by omega
    have e : nextF f n (i.toNat % n) = none := nextF_full (Nat.mod_lt _ hn) (fun j hj => all _ (Nat.mod_lt _ hn))
    exact (nx_none h0 rfl e).2

theorem nxI_lt {f : Nat → Bool} {n : Nat} (i : Int) : 0 ≤ nxI f n i := by unfold nxI; split <;> omega

theorem St2.toB {w W : World} {a g b h n : Nat} {f r : Nat → Bool} (S : St2 w a g b h n f r W) : StB w a g n f W := ⟨S.m, S.bel, S.g0⟩

theorem takes_n (n : Int) : ∃ N : Nat, N < 300 ∧ wrap64 ((IntKind.u64.wrap n).tmod 300) = (N : Int) := by
  have h0 : 0 ≤ IntKind.u64.wrap n := by rw [IntKind.wrap_u64]; omega
  obtain ⟨m, hm⟩ := Int.eq_ofNat_of_zero_le h0
  rw [hm]
  have e : ((m : Int)).tmod 300 = ((m % 300 : Nat) : Int) := by
    rw [Int.tmod_eq_emod_of_nonneg (by omega)]; omega
  rw [e]
  refine ⟨m % 300, Nat.mod_lt _ (by decide), ?_⟩
  have := IntKind.wrap_i64 ((m % 300 : Nat) : Int)
  simp only [wrap64]
  omega

set_option maxRecDepth 100000 in
set_option maxHeartbeats 4000000 in
theorem takes_walk (n : Int) (x : Option Addr) (len cap b o : Nat) (F : Int) (F0 : -9223372036854775808 ≤ F) (F1 : F ≤ 9223372036854775807) (w : World) (hT : TB w) (HA : ActsAt w x len b o) :
    Calls Tryd.prog 8 #[.int .i64 n, .slice x len cap, .int .i64 F] w fun e w' => e = .returned (.bool true) ∧ Below w.heap.size w w' := by
  have AW := hide (bawake_c w hT)
  have TH := hide hT
  have AH := hide HA
  obtain ⟨N, hN, eN⟩ := takes_n n
  have hlen := HA.2.1
  clear hT HA
  go_enter Tryd.func8, Tryd.ntmps8
  go_wp2_with fail
  refine AW.out.mono ?_
  rintro e w1 ⟨rfl, hb⟩
  have N1 := hide (new_s hb N (by omega))
  clear AW hb
  go_wp2_with fail
  refine N1.out.mono ?_
  rintro e w2 ⟨rfl, hS, hb2, hs2⟩
  have S2 := hide hS
  have N2 := hide (rnew_c N (show N ≤ 65536 by omega) w2)
  clear hS hb2 hs2 N1
  go_wp2_with fail
  refine N2.out.mono ?_
  rintro e w3 ⟨rfl, hR, hb3, hs3⟩
  have S3 : Hid (St2 w (w1.heap.size + 1) w1.heap.size (w2.heap.size + 1) w2.heap.size N (fun _ => false) (fun _ => false) w3) := ⟨S2.out.1.below hb3, hR, next_bel S2.out.2.1 hb3, S2.out.2.2, S2.out.2.1.size⟩
  clear hR hb3 hs3 N2 S2 eN
  obtain ⟨rb, erb⟩ : ∃ rb, w2.heap.size + 1 = rb := ⟨_, rfl⟩
  obtain ⟨rh, erh⟩ : ∃ rh, w2.heap.size = rh := ⟨_, rfl⟩
  obtain ⟨a0, ea0⟩ : ∃ a0, w1.heap.size + 1 = a0 := ⟨_, rfl⟩
  obtain ⟨g0, eg0⟩ : ∃ g0, w1.heap.size = g0 := ⟨_, rfl⟩
  rw [erb, erh, ea0, eg0] at S3
  rw [erb, ea0]
  clear erb erh ea0 eg0
  go_wp2_with fail
  go_loopw [7, 11] (fun m i wr => ∃ (k a g : Nat) (f : Nat → Bool), k ≤ len ∧ k ≤ 60 ∧ i = .int .i64 k ∧ m = .pointer (some ⟨a, 0, none⟩) ∧ Hid (St2 w a g rb rh N f f wr)) (fun _ i _ => 60 - (intOf i).toNat)
  case atStart => exact ⟨0, a0, g0, _, by omega, by omega, rfl, rfl, S3⟩
  case round =>
    clear S3
    obtain ⟨k, a, g, f, hk1, hk2, rfl, rfl, S⟩ := hrel
    by_cases hlt : k < len ∧ k < 60
    · obtain ⟨h1, h2⟩ := hlt
      have h1' : (k : Int) < len := by omega
      have h2' : (k : Int) < 60 := by omega
      obtain ⟨ho, -, hc⟩ := AH.out.below S.out.bel
      obtain ⟨K, A, B, -, c0, c1, c2⟩ := hc k h1
      obtain rfl : x = some ⟨b, o, none⟩ := ho.resolve_right (by omega)
      have D := hide (does_c w a g rb rh N f K A B wr S.out)
      clear ho hc S
      go_wp2_with fail
      refine D.out.mono ?_
      rintro e w4 ⟨a', g', f', rfl, hS⟩
      have S4 := hide hS
      clear hS D
      go_wp2_with fail
      go_roundw
      case rel => exact ⟨k + 1, a', g', f', by omega, by omega, by go_num, rfl, S4⟩
      case measure => simp [intOf]; omega
    · have hex : ¬ (k : Int) < len ∨ ((k : Int) < len ∧ ¬ (k : Int) < 60) := by omega
      clear hlt AH
      obtain ⟨c, hc⟩ : ∃ c, cnt f N = c := ⟨_, rfl⟩
      have hcN : c ≤ N := by rw [← hc]; exact cnt_le _ _
      have CC := hide (count_s S.out.toB (C := (c : Int)) (by rw [hc]))
      have HC := hide hc
      clear hc
      rcases hex with hx1 | ⟨hx1, hx2⟩
      all_goals
        go_wp2_with fail
        refine CC.out.mono ?_
        rintro e w5 ⟨rfl, hb⟩
        have S5 := hide (S.out.quiet hb)
        clear hb CC S
        go_wp2_with fail
        go_loopw [2, 15] (fun fr t wr => ∃ (j : Nat) (q : Int) (f' : Nat → Bool), j ≤ N - c ∧ t = .int .i64 j ∧ fr = .int .i64 q ∧ -9223372036854775808 ≤ q ∧ q ≤ 9223372036854775807 ∧ Hid (St2 w a g rb rh N f' f wr) ∧ Hid (cnt f' N = c + j) ∧ Hid (∀ p, f p = true → f' p = true)) (fun _ t _ => N - c - (intOf t).toNat)
        case atStart => exact ⟨0, F, f, by omega, rfl, rfl, F0, F1, S5, HC, fun p h => h⟩
        case round =>
          clear S5 HC
          obtain ⟨j, q, f', hj, rfl, rfl, q0, q1, S, hcnt, hsup⟩ := hrel
          by_cases hlt : j < N - c
          · have hlt' : (j : Int) < (N : Int) - c := by omega
            obtain ⟨p, hp, hfp, e1, e2⟩ := nx_free (f := f') (n := N) q (by rw [hcnt.out]; omega)
            have hfp0 : f p = false := by
              cases e : f p
              · rfl
              · rw [hsup.out p e] at hfp; cases hfp
            have NX := hide (next_s S.out.toB TH.out q0 q1 e1 e2)
            have hcnt2 : Hid (cnt (upd f' p true) N = c + (j + 1)) := by show _ = _; rw [cnt_put hp hfp, hcnt.out]; omega
            have hsup2 : Hid (∀ z, f z = true → upd f' p true z = true) := fun z hz => by
              unfold upd
              split
              · rfl
              · exact hsup.out z hz
            have HF := hide hfp
            have HF0 := hide (show (decide (0 ≤ (p : Int) ∧ (p : Int) < N) && f (p : Int).toNat) = false by rw [Int.toNat_natCast, hfp0, Bool.and_false])
            have hpb : (p : Int) < 300 := by omega
            clear hfp hfp0 e1 e2 hcnt hsup
            go_wp2_with fail
            refine NX.out.mono ?_
            rintro e w6 ⟨rfl, hb⟩
            have S6 := hide (S.out.quiet hb)
            clear hb NX S
            go_wp2_with fail
            refine (rhas_c rb rh N f p _ S6.out.r HF0.out).mono ?_
            rintro e w7 ⟨rfl, rfl⟩
            clear HF0
            go_wp2_with fail
            refine (put_new a g N p f' hp HF.out _ S6.out.m).mono ?_
            rintro e w8 ⟨rfl, hM, hK⟩
            have S8 := hide (S6.out.turnM hM hK)
            clear hM hK S6 HF
            go_wp2_with fail
            go_roundw
            case rel => exact ⟨j + 1, p, upd f' p true, by omega, by go_num, rfl, by omega, by omega, S8, hcnt2, hsup2⟩
            case measure => simp [intOf]; omega
          · have hlt' : ¬ (j : Int) < (N : Int) - c := by omega
            have hfull : cnt f' N = N := by rw [hcnt.out]; omega
            obtain ⟨P, hP⟩ : ∃ P, nxI f' N q = P := ⟨_, rfl⟩
            have NX := hide (next_s S.out.toB TH.out q0 q1 hP (nx_over q hfull))
            have HU := hide (show ((cnt f' N : Nat) : Int) = (N : Int) by rw [hfull])
            clear hcnt hsup hP hfull hlt
            go_wp2_with fail
            refine NX.out.mono ?_
            rintro e w6 ⟨rfl, hb⟩
            have S6 := hide (S.out.quiet hb)
            clear hb NX S
            go_wp2_with fail
            refine (count_s S6.out.toB HU.out).mono ?_
            rintro e w7 ⟨rfl, hb⟩
            have S7 := hide (S6.out.quiet hb)
            clear hb S6 HU
            go_wp2_with fail
            go_ret
            exact ⟨rfl, S7.out.bel⟩

end Go.Proofs.YtkfglbmhpdcfpaaDoor
