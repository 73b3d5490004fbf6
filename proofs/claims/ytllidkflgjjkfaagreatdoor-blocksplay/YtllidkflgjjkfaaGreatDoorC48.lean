/-
  Texts SeT5 of the proof.
-/
import Derived.Test.YtllidkflgjjkfaaGreatDoorC47
import Derived.Test.YtllidkflgjjkfaaGreatDoorC0

namespace Go.Proofs.YtllidkflgjjkfaaGreatDoor
open Go.ChangeShapes Go.WideShapes Go.ChangeAt Go.RowKit
set_option linter.unusedVariables false
set_option linter.unusedSimpArgs false

set_option maxRecDepth 100000 in
set_option maxHeartbeats 6400000 in
theorem bplay_main {v : Bool} {h l b k : Int} {n N len cap bo oo : Nat} {xo : Option Addr} (O : SetOf v h l b k n N) (hN : N ≤ 256) (hs : smB v n b k = true) (w : World) (hA : BActsAt w xo len bo oo) (hL : LW w) (hT : TB w) :
    Calls Tryz.prog 4 #[pv v h l b, .int .i64 k, .slice xo len cap] w fun e w' => e = .returned (.bool true) ∧ Below w.heap.size w w' := by
  have hz := hL.sz
  have K := pfx_start7 w v h l b
  have AW := hide (awake7_c _ (hL.of K.bel hz) (hT.below K.bel))
  have NW := hide (fun w' => snew_c O w')
  have SM := hide (fun w' => small7_c (v := v) (b := b) (k := k) O.num w')
  rw [hs] at SM
  have RN := hide (fun w' => rnew7_c O hN w')
  have DO := hide (fun (K : Int) (u : Bool) (qh ql cq A : Int) (m : Nat) (hq : IsNum qh ql m) x a g r gl cp gu f c L W (S : PSt w L v h l b k x a g r gl cp gu n N f c f c W) => does7_c (K := K) (u := u) (cq := cq) (A := A) O hT hq S)
  have AI := hide (fun (K : Int) (u : Bool) (qh ql cq A : Int) (m : Nat) (hq : IsNum qh ql m) x a g r gl cp gu f c L W (S : PSt w L v h l b k x a g r gl cp gu n N f c f c W) => aim_p (K := K) (u := u) (cq := cq) (A := A) O hq S)
  have HA := hide (fun (u : Bool) (qh ql cq : Int) (m : Nat) (hq : IsNum qh ql m) x a g r gl cp gu (f : Nat → Bool) c L W (T : Bool) (hB : T = true ↔ ∃ p, f p = true ∧ ovP v n k N u m cq p = true) (S : PSt w L v h l b k x a g r gl cp gu n N f c f c W) => has_p (u := u) (cq := cq) (f := f) (T := T) O hq hB S)
  have HR := hide (fun (u : Bool) (qh ql cq : Int) (m : Nat) (hq : IsNum qh ql m) x a g r gl cp gu (f : Nat → Bool) c L W (T : Bool) (hB : T = true ↔ ∃ p, f p = true ∧ ovP v n k N u m cq p = true) (S : PSt w L v h l b k x a g r gl cp gu n N f c f c W) => rhas_p (u := u) (cq := cq) (f2 := f) (T := T) O hq hB S)
  have LI := hide (fun r gl cp gu f c W (R : RAt W v h l b k r gl cp gu n N f c) => rlist7_c O.small W R)
  have US := hide (fun x a g f c W (P : SetAt W v h l b k x a g N f c) => used8_c O W P)
  have AC := hide hA
  have KH := hide K
  clear hL hz O K hT hA hs
  go_enter Tryz.func4, Tryz.ntmps4
  go_wp2_with fail
  refine AW.out.mono ?_
  rintro e w0 ⟨rfl, hb⟩
  have K0 := hide (KH.out.below hb)
  have F := K0.out.1
  simp only [Facts, CellsAt] at F
  clear AW hb KH
  go_wp2_with fail
  refine (NW.out _).mono ?_
  rintro e w1 ⟨x, a, g, rfl, hP, hb, hx, hg, ha⟩
  have K1 := hide (K0.out.below hb)
  have P1 := hide hP
  have fr1 : Hid (w.heap.size < g ∧ w.heap.size < x) := by have := K0.out.lts.1; show _ ∧ _; omega
  have F1 := K1.out.1
  simp only [Facts, CellsAt] at F1
  clear NW hb K0 F hP hx hg ha
  go_wp2_with fail
  refine (SM.out _).mono ?_
  rintro e w2 ⟨rfl, hb⟩
  have K2 := hide (K1.out.below hb)
  have P2 := hide (P1.out.below hb)
  have F2 := K2.out.1
  simp only [Facts, CellsAt] at F2
  clear SM hb K1 P1 F1
  go_wp2_with fail
  refine (RN.out _).mono ?_
  rintro e w3 ⟨r, gl, cp, gu, rfl, hR, hb, hr, hgl, hgu⟩
  have S3 : Hid (PSt w [(w.heap.size, [.bool v, .int .u64 h, .int .u64 l, .int .i64 b], 28)] v h l b k x a g r gl cp gu n N (fun _ => false) 0 (fun _ => false) 0 w3) := by
    have q := K2.out.lts.1
    have z := fr1.out
    exact ⟨K2.out.below hb, P2.out.below hb, hR, ⟨by show w.heap.size ≠ g; omega, trivial⟩, ⟨by show w.heap.size ≠ x; omega, trivial⟩, ⟨by show w.heap.size ≠ gu; omega, trivial⟩, ⟨by show w.heap.size ≠ r; omega, trivial⟩, by omega⟩
  have F3 := S3.out.kn.1
  simp only [Facts, CellsAt] at F3
  clear RN hb K2 P2 F2 hR hr hgl hgu fr1
  go_wp2_with fail
  go_loopw [7, 12] (fun sv iv wr => ∃ (i x a g c : Nat) (f : Nat → Bool), i ≤ len ∧ i ≤ 60 ∧ iv = .int .i64 i ∧ sv = .pointer (some ⟨x, 0, none⟩) ∧ Hid (PSt w [(w.heap.size, [.bool v, .int .u64 h, .int .u64 l, .int .i64 b], 28)] v h l b k x a g r gl cp gu n N f c f c wr)) (fun _ iv _ => 60 - (intOf iv).toNat)
  case atStart => exact ⟨0, x, a, g, 0, _, by omega, by omega, rfl, rfl, S3⟩
  case round =>
    clear S3 F3
    obtain ⟨i, x, a, g, c, f, hi, hi60, rfl, rfl, S⟩ := hrel
    have F := S.out.kn.1
    simp only [Facts, CellsAt] at F
    by_cases hlt : i < len ∧ i < 60
    · have hl1 : (i : Int) < len := by omega
      have hl2 : (i : Int) < 60 := by omega
      obtain ⟨ho, _, hc⟩ := AC.out
      obtain ⟨K, u, qh, ql, m, cq, A, hq, hA, e0, e1, e2, e3, e4, e5⟩ := hc i hlt.1
      obtain rfl : xo = some ⟨bo, oo, none⟩ := ho.resolve_right (by omega)
      have D1 := hide (DO.out K u qh ql cq A m hq x a g r gl cp gu f c _ wr S.out)
      have A1 := hide (fun x a g f c L W S' => AI.out K u qh ql cq A m hq x a g r gl cp gu f c L W S')
      have tr : Hid (∀ W, Below w.heap.size w W → ∀ o v, w.cell? ⟨bo, o, none⟩ = some v → W.cell? ⟨bo, o, none⟩ = some v) := fun W bl o v hh => ((bcell bl).1 _ _ (cell_in7 hh)).trans hh
      have bl := S.out.kn.bel
      have d0 := tr.out _ bl _ _ e0
      have d1 := tr.out _ bl _ _ e1
      have d2 := tr.out _ bl _ _ e2
      have d3 := tr.out _ bl _ _ e3
      have d4 := tr.out _ bl _ _ e4
      have d5 := tr.out _ bl _ _ e5
      have EE : Hid (w.cell? ⟨bo, oo + i * 6, none⟩ = some (.int .i64 K) ∧ w.cell? ⟨bo, oo + i * 6 + 1, none⟩ = some (.bool u) ∧ w.cell? ⟨bo, oo + i * 6 + 2, none⟩ = some (.int .u64 qh) ∧ w.cell? ⟨bo, oo + i * 6 + 3, none⟩ = some (.int .u64 ql) ∧ w.cell? ⟨bo, oo + i * 6 + 4, none⟩ = some (.int .i64 cq) ∧ w.cell? ⟨bo, oo + i * 6 + 5, none⟩ = some (.int .i64 A)) := ⟨e0, e1, e2, e3, e4, e5⟩
      clear hc hq hA e0 e1 e2 e3 e4 e5 ho bl DO AI LI US S F
      go_wp2_with fail
      refine D1.out.mono ?_
      rintro e w4 ⟨x2, a2, g2, f2, c2, rfl, hS⟩
      have S4 := hide hS
      have F4 := S4.out.kn.1
      simp only [Facts, CellsAt] at F4
      have A2 := hide (A1.out x2 a2 g2 f2 c2 _ w4 S4.out)
      have bl := S4.out.kn.bel
      obtain ⟨e0, e1, e2, e3, e4, e5⟩ := EE.out
      have d0 := tr.out _ bl _ _ e0
      have d1 := tr.out _ bl _ _ e1
      have d2 := tr.out _ bl _ _ e2
      have d3 := tr.out _ bl _ _ e3
      have d4 := tr.out _ bl _ _ e4
      have d5 := tr.out _ bl _ _ e5
      clear D1 A1 hS bl e0 e1 e2 e3 e4 e5 tr EE
      go_wp2_with fail
      refine A2.out.mono ?_
      rintro e w5 ⟨u1, qh1, ql1, m1, cq1, hm, rfl, hS⟩
      have S5 := QX.of (hS.push [.bool u1, .int .u64 qh1, .int .u64 ql1, .int .i64 cq1] 28)
      obtain ⟨T, hT⟩ := hasT (∃ p, f2 p = true ∧ ovP v n k N u1 m1 cq1 p = true)
      have H1 := hide (fun L W S' => HA.out u1 qh1 ql1 cq1 m1 hm x2 a2 g2 r gl cp gu f2 c2 L W T hT S')
      have H2 := hide (fun L W S' => HR.out u1 qh1 ql1 cq1 m1 hm x2 a2 g2 r gl cp gu f2 c2 L W T hT S')
      clear A2 hS S4 F4 hm hT d0 d1 d2 d3 d4 d5 HA HR
      go_wp2_with fail
      refine wp_region_held_drew (S := (QX w5.heap.size u1 qh1 ql1 cq1 w [(w.heap.size, [.bool v, .int .u64 h, .int .u64 l, .int .i64 b], 28)] v h l b k x2 a2 g2 r gl cp gu n N f2 c2)) (by kernel_rfl) ?hS100 (fun hHeld => ?rest100)
      case hS100 => (first | with_reducible exact S5.drew | with_reducible exact hHeld.below hb6 | with_reducible exact hHeld.below hb7)
      refine wtk7 (i := 0) (v := ?v101) (ga7 rfl) (by kernel_rfl) (fun _ _ _ h => h) ⟨by rfl, ?hy101⟩ (by assumption) ?rest101
      case hy101 => (intro wq hSw; (try simp only [Two, QX] at hSw); go_simp; try with_reducible rfl)
      try simp only [Act.put, sa7, sb7, sc7]
      refine wtk7 (i := 1) (v := ?v102) (ga7 rfl) (by kernel_rfl) (fun _ _ _ h => h) ⟨by rfl, ?hy102⟩ (by assumption) ?rest102
      case hy102 => (intro wq hSw; (try simp only [Two, QX] at hSw); go_simp; try with_reducible rfl)
      try simp only [Act.put, sa7, sb7, sc7]
      refine wtk7 (i := 2) (v := ?v103) (ga7 rfl) (by kernel_rfl) (fun _ _ _ h => h) ⟨by rfl, ?hy103⟩ (by assumption) ?rest103
      case hy103 => (intro wq hSw; (try simp only [Two, QX] at hSw); go_simp; try with_reducible rfl)
      try simp only [Act.put, sa7, sb7, sc7]
      refine wtk7 (i := 3) (v := ?v104) (ga7 rfl) (by kernel_rfl) (fun _ _ _ h => h) ⟨by rfl, ?hy104⟩ (by assumption) ?rest104
      case hy104 => (intro wq hSw; (try simp only [Two, QX] at hSw); go_simp; try with_reducible rfl)
      try simp only [Act.put, sa7, sb7, sc7]
      refine wtk7 (i := 4) (v := ?v105) (ga7 rfl) (by kernel_rfl) (fun _ _ _ h => h) ⟨by rfl, ?hy105⟩ (by assumption) ?rest105
      case hy105 => (intro wq hSw; (try simp only [Two, QX] at hSw); go_simp; try with_reducible rfl)
      try simp only [Act.put, sa7, sb7, sc7]
      refine wtk7 (i := 6) (v := ?v106) (ga7 rfl) (by kernel_rfl) (fun _ _ _ h => h) ⟨by rfl, ?hy106⟩ (by assumption) ?rest106
      case hy106 => (intro wq hSw; (try simp only [Two, QX] at hSw); go_simp; try with_reducible rfl)
      try simp only [Act.put, sa7, sb7, sc7]
      refine wtk7 (i := 7) (v := ?v107) (ga7 rfl) (by kernel_rfl) (fun _ _ _ h => h) ⟨by rfl, ?hy107⟩ (by assumption) ?rest107
      case hy107 => (intro wq hSw; (try simp only [Two, QX] at hSw); go_simp; try with_reducible rfl)
      try simp only [Act.put, sa7, sb7, sc7]
      refine wpAnyH_ready (rs := [5]) (by kernel_rfl) (by simp) ?rdy108
      refine AllReadyH.cons (ga7 rfl) (fun K hK => ?stp108) AllReadyH.nil
      go_simp
      go_wp2_with fail
      (refine (H1.out _ _ hHeld.2.out).mono ?_; rintro e w6 ⟨rfl, hb6, _⟩)
      go_wp2_with fail
      refine hK.out _ _ ?hSn108 (fun hHeld2 => ?rest108)
      case hSn108 => (first | with_reducible exact S5.drew | with_reducible exact hHeld.below hb6 | with_reducible exact hHeld.below hb7)
      clear hK K hHeld
      have hHeld := hHeld2
      clear hHeld2
      try simp only [Act.put, sa7, sb7, sc7]
      refine wpAnyH_ready (rs := [8]) (by kernel_rfl) (by simp) ?rdy109
      refine AllReadyH.cons (ga7 rfl) (fun K hK => ?stp109) AllReadyH.nil
      go_simp
      go_wp2_with fail
      (refine (H2.out _ _ hHeld.2.out).mono ?_; rintro e w7 ⟨rfl, hb7, _⟩)
      go_wp2_with fail
      refine hK.out _ _ ?hSn109 (fun hHeld2 => ?rest109)
      case hSn109 => (first | with_reducible exact S5.drew | with_reducible exact hHeld.below hb6 | with_reducible exact hHeld.below hb7)
      clear hK K hHeld
      have hHeld := hHeld2
      clear hHeld2
      try simp only [Act.put, sa7, sb7, sc7]
      refine wtk7 (i := 9) (v := (Value.bool false)) (ga7 rfl) (by kernel_rfl) (fun _ _ _ h => h) ⟨by rfl, ?hy110⟩ (by assumption) ?rest110
      case hy110 => (intro wq hSw; (try simp only [Two, QX] at hSw); go_simp; (all_goals (first | rfl | simp)))
      try simp only [Act.put, sa7, sb7, sc7]
      refine wtk7 (i := 10) (v := ?v111) (ga7 rfl) (by kernel_rfl) (fun _ _ _ h => h) ⟨by rfl, ?hy111⟩ (by assumption) ?rest111
      case hy111 => (intro wq hSw; (try simp only [Two, QX] at hSw); go_simp; try with_reducible rfl)
      try simp only [Act.put, sa7, sb7, sc7]
      refine wpAnyH_done (by kernel_rfl) ?fin100 _
      have S6 := hide hHeld.2.out.tail
      clear hHeld S5 H1 H2 hb6 hb7
      go_wp2
      go_roundw
      case rel => exact ⟨i + 1, x2, a2, g2, c2, f2, by omega, by omega, by go_num, rfl, S6⟩
      case measure => simp [intOf]; omega
    · have hstop : ((decide ((i : Int) < (len : Int))) && decide ((i : Int) < 60)) = false := by
        by_cases c1 : i < len
        · rw [decide_eq_false (show ¬ (i : Int) < 60 by omega), Bool.and_false]
        · rw [decide_eq_false (show ¬ (i : Int) < (len : Int) by omega), Bool.false_and]
      have L1 := hide (LI.out r gl cp gu f c wr S.out.rr)
      have U1 := hide (fun W P => US.out x a g f c W P)
      clear DO AI HA HR LI US AC
      rcases (show (¬ (i : Int) < len) ∨ ((i : Int) < len ∧ ¬ (i : Int) < 60) by omega) with hl1 | ⟨hl1, hl2⟩
      · clear hlt hstop
        go_wp2_with fail
        refine L1.out.mono ?_
        rintro e w4 ⟨uv, rfl, ho, hb⟩
        have Y0 := YX.of (S.out.below hb) ho
        obtain ⟨xq, cq, huv, _⟩ := row_at8 ho
        subst huv
        obtain ⟨M, hM⟩ : ∃ M, (usedL f N).length = M := ⟨_, rfl⟩
        have HM := hide hM
        have M1 : M ≤ N := by rw [← hM, usedL_len]; exact cnt_le _ _
        have CN : Hid (((N : Nat) : Int) - (cnt f N : Nat) = (N : Int) - M) := by show _ = _; rw [← HM.out, usedL_len]
        have wr2 : IntKind.i64.wrap ((N : Int) - M) = (N : Int) - M := by simp [IntKind.wrap, IntKind.bits, IntKind.signed]; omega
        rw [hM] at Y0 ⊢
        clear L1 hb ho S F hM hi hi60
        go_wp2_with fail
        refine wp_region_held_drew (S := (YX w v h l b k x a g r gl cp gu n N f c wr.heap.size (.slice xq M cq))) (by kernel_rfl) ?hS200 (fun hHeld => ?rest200)
        case hS200 => (first | with_reducible exact Y0.drew | with_reducible exact hHeld.below hb5 | with_reducible exact hHeld.below hb6 | with_reducible exact hHeld.below hb7 | with_reducible exact hHeld | with_reducible exact hHeld.below hb8)
        refine wtk7 (i := 0) (v := ?v201) (ga7 rfl) (by kernel_rfl) (fun _ _ _ h => h) ⟨by rfl, ?hy201⟩ (by assumption) ?rest201
        case hy201 => (intro wq hSw; (try simp only [Two, YX] at hSw); go_simp; try with_reducible rfl)
        try simp only [Act.put, sa7, sb7, sc7]
        refine wtk7 (i := 2) (v := ?v202) (ga7 rfl) (by kernel_rfl) (fun _ _ _ h => h) ⟨by rfl, ?hy202⟩ (by assumption) ?rest202
        case hy202 => (intro wq hSw; (try simp only [Two, YX] at hSw); go_simp; try with_reducible rfl)
        try simp only [Act.put, sa7, sb7, sc7]
        refine wpAnyH_ready (rs := [1]) (by kernel_rfl) (by simp) ?rdy203
        refine AllReadyH.cons (ga7 rfl) (fun K hK => ?stp203) AllReadyH.nil
        go_simp
        go_wp2_with fail
        (refine (U1.out _ hHeld.2.out.1.p).mono ?_; rintro e w5 ⟨sv, rfl, ho5, hb5⟩)
        go_wp2_with fail
        refine hK.out _ _ ?hSn203 (fun hHeld2 => ?rest203)
        case hSn203 => (first | with_reducible exact Y0.drew | with_reducible exact hHeld.below hb5 | with_reducible exact hHeld.below hb6 | with_reducible exact hHeld.below hb7 | with_reducible exact hHeld | with_reducible exact hHeld.below hb8)
        clear hK K hHeld
        have hHeld := hHeld2
        clear hHeld2
        try simp only [Act.put, sa7, sb7, sc7]
        refine wpAnyH_ready (rs := [3]) (by kernel_rfl) (by simp) ?rdy204
        refine AllReadyH.cons (ga7 rfl) (fun K hK => ?stp204) AllReadyH.nil
        go_simp
        go_wp2_with fail
        (refine (same7_c (by have := HM.out; omega) _ ho5 (by have o := hHeld.2.out.2; exact o)).mono ?_; rintro e w6 ⟨rfl, hb6⟩)
        go_wp2_with fail
        refine hK.out _ _ ?hSn204 (fun hHeld2 => ?rest204)
        case hSn204 => (first | with_reducible exact Y0.drew | with_reducible exact hHeld.below hb5 | with_reducible exact hHeld.below hb6 | with_reducible exact hHeld.below hb7 | with_reducible exact hHeld | with_reducible exact hHeld.below hb8)
        clear hK K hHeld
        have hHeld := hHeld2
        clear hHeld2
        try simp only [Act.put, sa7, sb7, sc7]
        refine wtk7 (i := 4) (v := ?v205) (ga7 rfl) (by kernel_rfl) (fun _ _ _ h => h) ⟨by rfl, ?hy205⟩ (by assumption) ?rest205
        case hy205 => (intro wq hSw; (try simp only [Two, YX] at hSw); go_simp; try with_reducible rfl)
        try simp only [Act.put, sa7, sb7, sc7]
        refine wtk7 (i := 5) (v := ?v206) (ga7 rfl) (by kernel_rfl) (fun _ _ _ h => h) ⟨by rfl, ?hy206⟩ (by assumption) ?rest206
        case hy206 => (intro wq hSw; (try simp only [Two, YX] at hSw); go_simp; try with_reducible rfl)
        try simp only [Act.put, sa7, sb7, sc7]
        refine wtk7 (i := 7) (v := ?v207) (ga7 rfl) (by kernel_rfl) (fun _ _ _ h => h) ⟨by rfl, ?hy207⟩ (by assumption) ?rest207
        case hy207 => (intro wq hSw; (try simp only [Two, YX] at hSw); go_simp; try with_reducible rfl)
        try simp only [Act.put, sa7, sb7, sc7]
        refine wtk7 (i := 8) (v := ?v208) (ga7 rfl) (by kernel_rfl) (fun _ _ _ h => h) ⟨by rfl, ?hy208⟩ (by assumption) ?rest208
        case hy208 => (intro wq hSw; (try simp only [Two, YX] at hSw); go_simp; try with_reducible rfl)
        try simp only [Act.put, sa7, sb7, sc7]
        refine wtk7 (i := 9) (v := ?v209) (ga7 rfl) (by kernel_rfl) (fun _ _ _ h => h) ⟨by rfl, ?hy209⟩ (by assumption) ?rest209
        case hy209 => (intro wq hSw; (try simp only [Two, YX] at hSw); go_simp; try with_reducible rfl)
        try simp only [Act.put, sa7, sb7, sc7]
        refine wtk7 (i := 10) (v := ?v210) (ga7 rfl) (by kernel_rfl) (fun _ _ _ h => h) ⟨by rfl, ?hy210⟩ (by assumption) ?rest210
        case hy210 => (intro wq hSw; (try simp only [Two, YX] at hSw); go_simp; try with_reducible rfl)
        try simp only [Act.put, sa7, sb7, sc7]
        refine wtk7 (i := 11) (v := ?v211) (ga7 rfl) (by kernel_rfl) (fun _ _ _ h => h) ⟨by rfl, ?hy211⟩ (by assumption) ?rest211
        case hy211 => (intro wq hSw; (try simp only [Two, YX] at hSw); go_simp; try with_reducible rfl)
        try simp only [Act.put, sa7, sb7, sc7]
        refine wtk7 (i := 12) (v := ?v212) (ga7 rfl) (by kernel_rfl) (fun _ _ _ h => h) ⟨by rfl, ?hy212⟩ (by assumption) ?rest212
        case hy212 => (intro wq hSw; (try simp only [Two, YX] at hSw); go_simp; try with_reducible rfl)
        try simp only [Act.put, sa7, sb7, sc7]
        refine wtk7 (i := 13) (v := ?v213) (ga7 rfl) (by kernel_rfl) (fun _ _ _ h => h) ⟨by rfl, ?hy213⟩ (by assumption) ?rest213
        case hy213 => (intro wq hSw; (try simp only [Two, YX] at hSw); go_simp; try with_reducible rfl)
        try simp only [Act.put, sa7, sb7, sc7]
        refine wtk7 (i := 14) (v := ?v214) (ga7 rfl) (by kernel_rfl) (fun _ _ _ h => h) ⟨by rfl, ?hy214⟩ (by assumption) ?rest214
        case hy214 => (intro wq hSw; (try simp only [Two, YX] at hSw); go_simp; try with_reducible rfl)
        try simp only [Act.put, sa7, sb7, sc7]
        refine wpAnyH_ready (rs := [6]) (by kernel_rfl) (by simp) ?rdy215
        refine AllReadyH.cons (ga7 rfl) (fun K hK => ?stp215) AllReadyH.nil
        go_simp
        go_wp2_with fail
        (refine (sleft_c CN.out _ hHeld.2.out.1.p).mono ?_; rintro e w7 ⟨rfl, hb7⟩)
        go_wp2_with fail
        refine hK.out _ _ ?hSn215 (fun hHeld2 => ?rest215)
        case hSn215 => (first | with_reducible exact Y0.drew | with_reducible exact hHeld.below hb5 | with_reducible exact hHeld.below hb6 | with_reducible exact hHeld.below hb7 | with_reducible exact hHeld | with_reducible exact hHeld.below hb8)
        clear hK K hHeld
        have hHeld := hHeld2
        clear hHeld2
        try simp only [Act.put, sa7, sb7, sc7]
        refine wtk7 (i := 15) (v := (Value.bool true)) (ga7 rfl) (by kernel_rfl) (fun _ _ _ h => h) ⟨by rfl, ?hy216⟩ (by assumption) ?rest216
        case hy216 => (intro wq hSw; (try simp only [Two, YX] at hSw); go_simp; (all_goals (first | rfl | simp)))
        try simp only [Act.put, sa7, sb7, sc7]
        refine wtk7 (i := 16) (v := ?v217) (ga7 rfl) (by kernel_rfl) (fun _ _ _ h => h) ⟨by rfl, ?hy217⟩ (by assumption) ?rest217
        case hy217 => (intro wq hSw; (try simp only [Two, YX] at hSw); go_simp; try with_reducible rfl)
        try simp only [Act.put, sa7, sb7, sc7]
        refine wtk7 (i := 17) (v := ?v218) (ga7 rfl) (by kernel_rfl) (fun _ _ _ h => h) ⟨by rfl, ?hy218⟩ (by assumption) ?rest218
        case hy218 => (intro wq hSw; (try simp only [Two, YX] at hSw); go_simp; try with_reducible rfl)
        try simp only [Act.put, sa7, sb7, sc7]
        refine wtk7 (i := 18) (v := ?v219) (ga7 rfl) (by kernel_rfl) (fun _ _ _ h => h) ⟨by rfl, ?hy219⟩ (by assumption) ?rest219
        case hy219 => (intro wq hSw; (try simp only [Two, YX] at hSw); go_simp; try with_reducible rfl)
        try simp only [Act.put, sa7, sb7, sc7]
        refine wtk7 (i := 20) (v := ?v220) (ga7 rfl) (by kernel_rfl) (fun _ _ _ h => h) ⟨by rfl, ?hy220⟩ (by assumption) ?rest220
        case hy220 => (intro wq hSw; (try simp only [Two, YX] at hSw); go_simp; try with_reducible rfl)
        try simp only [Act.put, sa7, sb7, sc7]
        refine wtk7 (i := 21) (v := ?v221) (ga7 rfl) (by kernel_rfl) (fun _ _ _ h => h) ⟨by rfl, ?hy221⟩ (by assumption) ?rest221
        case hy221 => (intro wq hSw; (try simp only [Two, YX] at hSw); go_simp; try with_reducible rfl)
        try simp only [Act.put, sa7, sb7, sc7]
        refine wtk7 (i := 22) (v := ?v222) (ga7 rfl) (by kernel_rfl) (fun _ _ _ h => h) ⟨by rfl, ?hy222⟩ (by assumption) ?rest222
        case hy222 => (intro wq hSw; (try simp only [Two, YX] at hSw); go_simp; try with_reducible rfl)
        try simp only [Act.put, sa7, sb7, sc7]
        refine wtk7 (i := 23) (v := ?v223) (ga7 rfl) (by kernel_rfl) (fun _ _ _ h => h) ⟨by rfl, ?hy223⟩ (by assumption) ?rest223
        case hy223 => (intro wq hSw; (try simp only [Two, YX] at hSw); go_simp; try with_reducible rfl)
        try simp only [Act.put, sa7, sb7, sc7]
        refine wtk7 (i := 24) (v := ?v224) (ga7 rfl) (by kernel_rfl) (fun _ _ _ h => h) ⟨by rfl, ?hy224⟩ (by assumption) ?rest224
        case hy224 => (intro wq hSw; (try simp only [Two, YX] at hSw); go_simp; try with_reducible rfl)
        try simp only [Act.put, sa7, sb7, sc7]
        refine wpAnyH_ready (rs := [19]) (by kernel_rfl) (by simp) ?rdy225
        refine AllReadyH.cons (ga7 rfl) (fun K hK => ?stp225) AllReadyH.nil
        go_simp
        go_wp2_with fail
        (refine (ssize_c _ hHeld.2.out.1.p).mono ?_; rintro e w7 ⟨rfl, rfl⟩)
        go_wp2_with fail
        refine hK.out _ _ ?hSn225 (fun hHeld2 => ?rest225)
        case hSn225 => (first | with_reducible exact Y0.drew | with_reducible exact hHeld.below hb5 | with_reducible exact hHeld.below hb6 | with_reducible exact hHeld.below hb7 | with_reducible exact hHeld | with_reducible exact hHeld.below hb8)
        clear hK K hHeld
        have hHeld := hHeld2
        clear hHeld2
        try simp only [Act.put, sa7, sb7, sc7]
        refine wtk7 (i := 25) (v := (Value.bool true)) (ga7 rfl) (by kernel_rfl) (fun _ _ _ h => h) ⟨by rfl, ?hy226⟩ (by assumption) ?rest226
        case hy226 => (intro wq hSw; (try simp only [Two, YX] at hSw); go_simp; (all_goals (first | rfl | simp)))
        try simp only [Act.put, sa7, sb7, sc7]
        refine wtk7 (i := 26) (v := ?v227) (ga7 rfl) (by kernel_rfl) (fun _ _ _ h => h) ⟨by rfl, ?hy227⟩ (by assumption) ?rest227
        case hy227 => (intro wq hSw; (try simp only [Two, YX] at hSw); go_simp; try with_reducible rfl)
        try simp only [Act.put, sa7, sb7, sc7]
        refine wtk7 (i := 27) (v := ?v228) (ga7 rfl) (by kernel_rfl) (fun _ _ _ h => h) ⟨by rfl, ?hy228⟩ (by assumption) ?rest228
        case hy228 => (intro wq hSw; (try simp only [Two, YX] at hSw); go_simp; try with_reducible rfl)
        try simp only [Act.put, sa7, sb7, sc7]
        refine wtk7 (i := 28) (v := ?v229) (ga7 rfl) (by kernel_rfl) (fun _ _ _ h => h) ⟨by rfl, ?hy229⟩ (by assumption) ?rest229
        case hy229 => (intro wq hSw; (try simp only [Two, YX] at hSw); go_simp; try with_reducible rfl)
        try simp only [Act.put, sa7, sb7, sc7]
        refine wtk7 (i := 30) (v := ?v230) (ga7 rfl) (by kernel_rfl) (fun _ _ _ h => h) ⟨by rfl, ?hy230⟩ (by assumption) ?rest230
        case hy230 => (intro wq hSw; (try simp only [Two, YX] at hSw); go_simp; try with_reducible rfl)
        try simp only [Act.put, sa7, sb7, sc7]
        refine wpAnyH_ready (rs := [29]) (by kernel_rfl) (by simp) ?rdy231
        refine AllReadyH.cons (ga7 rfl) (fun K hK => ?stp231) AllReadyH.nil
        go_simp
        go_wp2_with fail
        (refine (sbits_c _ hHeld.2.out.1.p).mono ?_; rintro e w7 ⟨rfl, rfl⟩)
        go_wp2_with fail
        refine hK.out _ _ ?hSn231 (fun hHeld2 => ?rest231)
        case hSn231 => (first | with_reducible exact Y0.drew | with_reducible exact hHeld.below hb5 | with_reducible exact hHeld.below hb6 | with_reducible exact hHeld.below hb7 | with_reducible exact hHeld | with_reducible exact hHeld.below hb8)
        clear hK K hHeld
        have hHeld := hHeld2
        clear hHeld2
        try simp only [Act.put, sa7, sb7, sc7]
        refine wtk7 (i := 31) (v := (Value.bool true)) (ga7 rfl) (by kernel_rfl) (fun _ _ _ h => h) ⟨by rfl, ?hy232⟩ (by assumption) ?rest232
        case hy232 => (intro wq hSw; (try simp only [Two, YX] at hSw); go_simp; (all_goals (first | rfl | simp)))
        try simp only [Act.put, sa7, sb7, sc7]
        refine wtk7 (i := 32) (v := ?v233) (ga7 rfl) (by kernel_rfl) (fun _ _ _ h => h) ⟨by rfl, ?hy233⟩ (by assumption) ?rest233
        case hy233 => (intro wq hSw; (try simp only [Two, YX] at hSw); go_simp; try with_reducible rfl)
        try simp only [Act.put, sa7, sb7, sc7]
        refine wtk7 (i := 33) (v := ?v234) (ga7 rfl) (by kernel_rfl) (fun _ _ _ h => h) ⟨by rfl, ?hy234⟩ (by assumption) ?rest234
        case hy234 => (intro wq hSw; (try simp only [Two, YX] at hSw); go_simp; try with_reducible rfl)
        try simp only [Act.put, sa7, sb7, sc7]
        refine wtk7 (i := 34) (v := ?v235) (ga7 rfl) (by kernel_rfl) (fun _ _ _ h => h) ⟨by rfl, ?hy235⟩ (by assumption) ?rest235
        case hy235 => (intro wq hSw; (try simp only [Two, YX] at hSw); go_simp; try with_reducible rfl)
        try simp only [Act.put, sa7, sb7, sc7]
        refine wtk7 (i := 36) (v := ?v236) (ga7 rfl) (by kernel_rfl) (fun _ _ _ h => h) ⟨by rfl, ?hy236⟩ (by assumption) ?rest236
        case hy236 => (intro wq hSw; (try simp only [Two, YX] at hSw); go_simp; try with_reducible rfl)
        try simp only [Act.put, sa7, sb7, sc7]
        refine wpAnyH_ready (rs := [35]) (by kernel_rfl) (by simp) ?rdy237
        refine AllReadyH.cons (ga7 rfl) (fun K hK => ?stp237) AllReadyH.nil
        go_simp
        go_wp2_with fail
        (refine (sprefix_c _ hHeld.2.out.1.p).mono ?_; rintro e w8 ⟨rfl, hb8⟩)
        go_wp2_with fail
        refine hK.out _ _ ?hSn237 (fun hHeld2 => ?rest237)
        case hSn237 => (first | with_reducible exact Y0.drew | with_reducible exact hHeld.below hb5 | with_reducible exact hHeld.below hb6 | with_reducible exact hHeld.below hb7 | with_reducible exact hHeld | with_reducible exact hHeld.below hb8)
        clear hK K hHeld
        have hHeld := hHeld2
        clear hHeld2
        try simp only [Act.put, sa7, sb7, sc7]
        refine wtk7 (i := 37) (v := (Value.bool true)) (ga7 rfl) (by kernel_rfl) (fun _ _ _ h => h) ⟨by rfl, ?hy238⟩ (by assumption) ?rest238
        case hy238 => (intro wq hSw; (try simp only [Two, YX] at hSw); go_simp; (all_goals (first | rfl | simp)))
        try simp only [Act.put, sa7, sb7, sc7]
        refine wtk7 (i := 38) (v := ?v239) (ga7 rfl) (by kernel_rfl) (fun _ _ _ h => h) ⟨by rfl, ?hy239⟩ (by assumption) ?rest239
        case hy239 => (intro wq hSw; (try simp only [Two, YX] at hSw); go_simp; try with_reducible rfl)
        try simp only [Act.put, sa7, sb7, sc7]
        refine wtk7 (i := 39) (v := ?v240) (ga7 rfl) (by kernel_rfl) (fun _ _ _ h => h) ⟨by rfl, ?hy240⟩ (by assumption) ?rest240
        case hy240 => (intro wq hSw; (try simp only [Two, YX] at hSw); go_simp; try with_reducible rfl)
        try simp only [Act.put, sa7, sb7, sc7]
        refine wpAnyH_done (by kernel_rfl) ?fin200 _
        have B9 := hide hHeld.2.out.1.kn.bel
        clear hHeld Y0 U1
        go_wp2
        go_ret
        exact ⟨by first | rfl | simp, B9.out⟩
      · clear hlt hstop
        go_wp2_with fail
        refine L1.out.mono ?_
        rintro e w4 ⟨uv, rfl, ho, hb⟩
        have Y0 := YX.of (S.out.below hb) ho
        obtain ⟨xq, cq, huv, _⟩ := row_at8 ho
        subst huv
        obtain ⟨M, hM⟩ : ∃ M, (usedL f N).length = M := ⟨_, rfl⟩
        have HM := hide hM
        have M1 : M ≤ N := by rw [← hM, usedL_len]; exact cnt_le _ _
        have CN : Hid (((N : Nat) : Int) - (cnt f N : Nat) = (N : Int) - M) := by show _ = _; rw [← HM.out, usedL_len]
        have wr2 : IntKind.i64.wrap ((N : Int) - M) = (N : Int) - M := by simp [IntKind.wrap, IntKind.bits, IntKind.signed]; omega
        rw [hM] at Y0 ⊢
        clear L1 hb ho S F hM hi hi60
        go_wp2_with fail
        refine wp_region_held_drew (S := (YX w v h l b k x a g r gl cp gu n N f c wr.heap.size (.slice xq M cq))) (by kernel_rfl) ?hS300 (fun hHeld => ?rest300)
        case hS300 => (first | with_reducible exact Y0.drew | with_reducible exact hHeld.below hb5 | with_reducible exact hHeld.below hb6 | with_reducible exact hHeld.below hb7 | with_reducible exact hHeld | with_reducible exact hHeld.below hb8)
        refine wtk7 (i := 0) (v := ?v301) (ga7 rfl) (by kernel_rfl) (fun _ _ _ h => h) ⟨by rfl, ?hy301⟩ (by assumption) ?rest301
        case hy301 => (intro wq hSw; (try simp only [Two, YX] at hSw); go_simp; try with_reducible rfl)
        try simp only [Act.put, sa7, sb7, sc7]
        refine wtk7 (i := 2) (v := ?v302) (ga7 rfl) (by kernel_rfl) (fun _ _ _ h => h) ⟨by rfl, ?hy302⟩ (by assumption) ?rest302
        case hy302 => (intro wq hSw; (try simp only [Two, YX] at hSw); go_simp; try with_reducible rfl)
        try simp only [Act.put, sa7, sb7, sc7]
        refine wpAnyH_ready (rs := [1]) (by kernel_rfl) (by simp) ?rdy303
        refine AllReadyH.cons (ga7 rfl) (fun K hK => ?stp303) AllReadyH.nil
        go_simp
        go_wp2_with fail
        (refine (U1.out _ hHeld.2.out.1.p).mono ?_; rintro e w5 ⟨sv, rfl, ho5, hb5⟩)
        go_wp2_with fail
        refine hK.out _ _ ?hSn303 (fun hHeld2 => ?rest303)
        case hSn303 => (first | with_reducible exact Y0.drew | with_reducible exact hHeld.below hb5 | with_reducible exact hHeld.below hb6 | with_reducible exact hHeld.below hb7 | with_reducible exact hHeld | with_reducible exact hHeld.below hb8)
        clear hK K hHeld
        have hHeld := hHeld2
        clear hHeld2
        try simp only [Act.put, sa7, sb7, sc7]
        refine wpAnyH_ready (rs := [3]) (by kernel_rfl) (by simp) ?rdy304
        refine AllReadyH.cons (ga7 rfl) (fun K hK => ?stp304) AllReadyH.nil
        go_simp
        go_wp2_with fail
        (refine (same7_c (by have := HM.out; omega) _ ho5 (by have o := hHeld.2.out.2; exact o)).mono ?_; rintro e w6 ⟨rfl, hb6⟩)
        go_wp2_with fail
        refine hK.out _ _ ?hSn304 (fun hHeld2 => ?rest304)
        case hSn304 => (first | with_reducible exact Y0.drew | with_reducible exact hHeld.below hb5 | with_reducible exact hHeld.below hb6 | with_reducible exact hHeld.below hb7 | with_reducible exact hHeld | with_reducible exact hHeld.below hb8)
        clear hK K hHeld
        have hHeld := hHeld2
        clear hHeld2
        try simp only [Act.put, sa7, sb7, sc7]
        refine wtk7 (i := 4) (v := ?v305) (ga7 rfl) (by kernel_rfl) (fun _ _ _ h => h) ⟨by rfl, ?hy305⟩ (by assumption) ?rest305
        case hy305 => (intro wq hSw; (try simp only [Two, YX] at hSw); go_simp; try with_reducible rfl)
        try simp only [Act.put, sa7, sb7, sc7]
        refine wtk7 (i := 5) (v := ?v306) (ga7 rfl) (by kernel_rfl) (fun _ _ _ h => h) ⟨by rfl, ?hy306⟩ (by assumption) ?rest306
        case hy306 => (intro wq hSw; (try simp only [Two, YX] at hSw); go_simp; try with_reducible rfl)
        try simp only [Act.put, sa7, sb7, sc7]
        refine wtk7 (i := 7) (v := ?v307) (ga7 rfl) (by kernel_rfl) (fun _ _ _ h => h) ⟨by rfl, ?hy307⟩ (by assumption) ?rest307
        case hy307 => (intro wq hSw; (try simp only [Two, YX] at hSw); go_simp; try with_reducible rfl)
        try simp only [Act.put, sa7, sb7, sc7]
        refine wtk7 (i := 8) (v := ?v308) (ga7 rfl) (by kernel_rfl) (fun _ _ _ h => h) ⟨by rfl, ?hy308⟩ (by assumption) ?rest308
        case hy308 => (intro wq hSw; (try simp only [Two, YX] at hSw); go_simp; try with_reducible rfl)
        try simp only [Act.put, sa7, sb7, sc7]
        refine wtk7 (i := 9) (v := ?v309) (ga7 rfl) (by kernel_rfl) (fun _ _ _ h => h) ⟨by rfl, ?hy309⟩ (by assumption) ?rest309
        case hy309 => (intro wq hSw; (try simp only [Two, YX] at hSw); go_simp; try with_reducible rfl)
        try simp only [Act.put, sa7, sb7, sc7]
        refine wtk7 (i := 10) (v := ?v310) (ga7 rfl) (by kernel_rfl) (fun _ _ _ h => h) ⟨by rfl, ?hy310⟩ (by assumption) ?rest310
        case hy310 => (intro wq hSw; (try simp only [Two, YX] at hSw); go_simp; try with_reducible rfl)
        try simp only [Act.put, sa7, sb7, sc7]
        refine wtk7 (i := 11) (v := ?v311) (ga7 rfl) (by kernel_rfl) (fun _ _ _ h => h) ⟨by rfl, ?hy311⟩ (by assumption) ?rest311
        case hy311 => (intro wq hSw; (try simp only [Two, YX] at hSw); go_simp; try with_reducible rfl)
        try simp only [Act.put, sa7, sb7, sc7]
        refine wtk7 (i := 12) (v := ?v312) (ga7 rfl) (by kernel_rfl) (fun _ _ _ h => h) ⟨by rfl, ?hy312⟩ (by assumption) ?rest312
        case hy312 => (intro wq hSw; (try simp only [Two, YX] at hSw); go_simp; try with_reducible rfl)
        try simp only [Act.put, sa7, sb7, sc7]
        refine wtk7 (i := 13) (v := ?v313) (ga7 rfl) (by kernel_rfl) (fun _ _ _ h => h) ⟨by rfl, ?hy313⟩ (by assumption) ?rest313
        case hy313 => (intro wq hSw; (try simp only [Two, YX] at hSw); go_simp; try with_reducible rfl)
        try simp only [Act.put, sa7, sb7, sc7]
        refine wtk7 (i := 14) (v := ?v314) (ga7 rfl) (by kernel_rfl) (fun _ _ _ h => h) ⟨by rfl, ?hy314⟩ (by assumption) ?rest314
        case hy314 => (intro wq hSw; (try simp only [Two, YX] at hSw); go_simp; try with_reducible rfl)
        try simp only [Act.put, sa7, sb7, sc7]
        refine wpAnyH_ready (rs := [6]) (by kernel_rfl) (by simp) ?rdy315
        refine AllReadyH.cons (ga7 rfl) (fun K hK => ?stp315) AllReadyH.nil
        go_simp
        go_wp2_with fail
        (refine (sleft_c CN.out _ hHeld.2.out.1.p).mono ?_; rintro e w7 ⟨rfl, hb7⟩)
        go_wp2_with fail
        refine hK.out _ _ ?hSn315 (fun hHeld2 => ?rest315)
        case hSn315 => (first | with_reducible exact Y0.drew | with_reducible exact hHeld.below hb5 | with_reducible exact hHeld.below hb6 | with_reducible exact hHeld.below hb7 | with_reducible exact hHeld | with_reducible exact hHeld.below hb8)
        clear hK K hHeld
        have hHeld := hHeld2
        clear hHeld2
        try simp only [Act.put, sa7, sb7, sc7]
        refine wtk7 (i := 15) (v := (Value.bool true)) (ga7 rfl) (by kernel_rfl) (fun _ _ _ h => h) ⟨by rfl, ?hy316⟩ (by assumption) ?rest316
        case hy316 => (intro wq hSw; (try simp only [Two, YX] at hSw); go_simp; (all_goals (first | rfl | simp)))
        try simp only [Act.put, sa7, sb7, sc7]
        refine wtk7 (i := 16) (v := ?v317) (ga7 rfl) (by kernel_rfl) (fun _ _ _ h => h) ⟨by rfl, ?hy317⟩ (by assumption) ?rest317
        case hy317 => (intro wq hSw; (try simp only [Two, YX] at hSw); go_simp; try with_reducible rfl)
        try simp only [Act.put, sa7, sb7, sc7]
        refine wtk7 (i := 17) (v := ?v318) (ga7 rfl) (by kernel_rfl) (fun _ _ _ h => h) ⟨by rfl, ?hy318⟩ (by assumption) ?rest318
        case hy318 => (intro wq hSw; (try simp only [Two, YX] at hSw); go_simp; try with_reducible rfl)
        try simp only [Act.put, sa7, sb7, sc7]
        refine wtk7 (i := 18) (v := ?v319) (ga7 rfl) (by kernel_rfl) (fun _ _ _ h => h) ⟨by rfl, ?hy319⟩ (by assumption) ?rest319
        case hy319 => (intro wq hSw; (try simp only [Two, YX] at hSw); go_simp; try with_reducible rfl)
        try simp only [Act.put, sa7, sb7, sc7]
        refine wtk7 (i := 20) (v := ?v320) (ga7 rfl) (by kernel_rfl) (fun _ _ _ h => h) ⟨by rfl, ?hy320⟩ (by assumption) ?rest320
        case hy320 => (intro wq hSw; (try simp only [Two, YX] at hSw); go_simp; try with_reducible rfl)
        try simp only [Act.put, sa7, sb7, sc7]
        refine wtk7 (i := 21) (v := ?v321) (ga7 rfl) (by kernel_rfl) (fun _ _ _ h => h) ⟨by rfl, ?hy321⟩ (by assumption) ?rest321
        case hy321 => (intro wq hSw; (try simp only [Two, YX] at hSw); go_simp; try with_reducible rfl)
        try simp only [Act.put, sa7, sb7, sc7]
        refine wtk7 (i := 22) (v := ?v322) (ga7 rfl) (by kernel_rfl) (fun _ _ _ h => h) ⟨by rfl, ?hy322⟩ (by assumption) ?rest322
        case hy322 => (intro wq hSw; (try simp only [Two, YX] at hSw); go_simp; try with_reducible rfl)
        try simp only [Act.put, sa7, sb7, sc7]
        refine wtk7 (i := 23) (v := ?v323) (ga7 rfl) (by kernel_rfl) (fun _ _ _ h => h) ⟨by rfl, ?hy323⟩ (by assumption) ?rest323
        case hy323 => (intro wq hSw; (try simp only [Two, YX] at hSw); go_simp; try with_reducible rfl)
        try simp only [Act.put, sa7, sb7, sc7]
        refine wtk7 (i := 24) (v := ?v324) (ga7 rfl) (by kernel_rfl) (fun _ _ _ h => h) ⟨by rfl, ?hy324⟩ (by assumption) ?rest324
        case hy324 => (intro wq hSw; (try simp only [Two, YX] at hSw); go_simp; try with_reducible rfl)
        try simp only [Act.put, sa7, sb7, sc7]
        refine wpAnyH_ready (rs := [19]) (by kernel_rfl) (by simp) ?rdy325
        refine AllReadyH.cons (ga7 rfl) (fun K hK => ?stp325) AllReadyH.nil
        go_simp
        go_wp2_with fail
        (refine (ssize_c _ hHeld.2.out.1.p).mono ?_; rintro e w7 ⟨rfl, rfl⟩)
        go_wp2_with fail
        refine hK.out _ _ ?hSn325 (fun hHeld2 => ?rest325)
        case hSn325 => (first | with_reducible exact Y0.drew | with_reducible exact hHeld.below hb5 | with_reducible exact hHeld.below hb6 | with_reducible exact hHeld.below hb7 | with_reducible exact hHeld | with_reducible exact hHeld.below hb8)
        clear hK K hHeld
        have hHeld := hHeld2
        clear hHeld2
        try simp only [Act.put, sa7, sb7, sc7]
        refine wtk7 (i := 25) (v := (Value.bool true)) (ga7 rfl) (by kernel_rfl) (fun _ _ _ h => h) ⟨by rfl, ?hy326⟩ (by assumption) ?rest326
        case hy326 => (intro wq hSw; (try simp only [Two, YX] at hSw); go_simp; (all_goals (first | rfl | simp)))
        try simp only [Act.put, sa7, sb7, sc7]
        refine wtk7 (i := 26) (v := ?v327) (ga7 rfl) (by kernel_rfl) (fun _ _ _ h => h) ⟨by rfl, ?hy327⟩ (by assumption) ?rest327
        case hy327 => (intro wq hSw; (try simp only [Two, YX] at hSw); go_simp; try with_reducible rfl)
        try simp only [Act.put, sa7, sb7, sc7]
        refine wtk7 (i := 27) (v := ?v328) (ga7 rfl) (by kernel_rfl) (fun _ _ _ h => h) ⟨by rfl, ?hy328⟩ (by assumption) ?rest328
        case hy328 => (intro wq hSw; (try simp only [Two, YX] at hSw); go_simp; try with_reducible rfl)
        try simp only [Act.put, sa7, sb7, sc7]
        refine wtk7 (i := 28) (v := ?v329) (ga7 rfl) (by kernel_rfl) (fun _ _ _ h => h) ⟨by rfl, ?hy329⟩ (by assumption) ?rest329
        case hy329 => (intro wq hSw; (try simp only [Two, YX] at hSw); go_simp; try with_reducible rfl)
        try simp only [Act.put, sa7, sb7, sc7]
        refine wtk7 (i := 30) (v := ?v330) (ga7 rfl) (by kernel_rfl) (fun _ _ _ h => h) ⟨by rfl, ?hy330⟩ (by assumption) ?rest330
        case hy330 => (intro wq hSw; (try simp only [Two, YX] at hSw); go_simp; try with_reducible rfl)
        try simp only [Act.put, sa7, sb7, sc7]
        refine wpAnyH_ready (rs := [29]) (by kernel_rfl) (by simp) ?rdy331
        refine AllReadyH.cons (ga7 rfl) (fun K hK => ?stp331) AllReadyH.nil
        go_simp
        go_wp2_with fail
        (refine (sbits_c _ hHeld.2.out.1.p).mono ?_; rintro e w7 ⟨rfl, rfl⟩)
        go_wp2_with fail
        refine hK.out _ _ ?hSn331 (fun hHeld2 => ?rest331)
        case hSn331 => (first | with_reducible exact Y0.drew | with_reducible exact hHeld.below hb5 | with_reducible exact hHeld.below hb6 | with_reducible exact hHeld.below hb7 | with_reducible exact hHeld | with_reducible exact hHeld.below hb8)
        clear hK K hHeld
        have hHeld := hHeld2
        clear hHeld2
        try simp only [Act.put, sa7, sb7, sc7]
        refine wtk7 (i := 31) (v := (Value.bool true)) (ga7 rfl) (by kernel_rfl) (fun _ _ _ h => h) ⟨by rfl, ?hy332⟩ (by assumption) ?rest332
        case hy332 => (intro wq hSw; (try simp only [Two, YX] at hSw); go_simp; (all_goals (first | rfl | simp)))
        try simp only [Act.put, sa7, sb7, sc7]
        refine wtk7 (i := 32) (v := ?v333) (ga7 rfl) (by kernel_rfl) (fun _ _ _ h => h) ⟨by rfl, ?hy333⟩ (by assumption) ?rest333
        case hy333 => (intro wq hSw; (try simp only [Two, YX] at hSw); go_simp; try with_reducible rfl)
        try simp only [Act.put, sa7, sb7, sc7]
        refine wtk7 (i := 33) (v := ?v334) (ga7 rfl) (by kernel_rfl) (fun _ _ _ h => h) ⟨by rfl, ?hy334⟩ (by assumption) ?rest334
        case hy334 => (intro wq hSw; (try simp only [Two, YX] at hSw); go_simp; try with_reducible rfl)
        try simp only [Act.put, sa7, sb7, sc7]
        refine wtk7 (i := 34) (v := ?v335) (ga7 rfl) (by kernel_rfl) (fun _ _ _ h => h) ⟨by rfl, ?hy335⟩ (by assumption) ?rest335
        case hy335 => (intro wq hSw; (try simp only [Two, YX] at hSw); go_simp; try with_reducible rfl)
        try simp only [Act.put, sa7, sb7, sc7]
        refine wtk7 (i := 36) (v := ?v336) (ga7 rfl) (by kernel_rfl) (fun _ _ _ h => h) ⟨by rfl, ?hy336⟩ (by assumption) ?rest336
        case hy336 => (intro wq hSw; (try simp only [Two, YX] at hSw); go_simp; try with_reducible rfl)
        try simp only [Act.put, sa7, sb7, sc7]
        refine wpAnyH_ready (rs := [35]) (by kernel_rfl) (by simp) ?rdy337
        refine AllReadyH.cons (ga7 rfl) (fun K hK => ?stp337) AllReadyH.nil
        go_simp
        go_wp2_with fail
        (refine (sprefix_c _ hHeld.2.out.1.p).mono ?_; rintro e w8 ⟨rfl, hb8⟩)
        go_wp2_with fail
        refine hK.out _ _ ?hSn337 (fun hHeld2 => ?rest337)
        case hSn337 => (first | with_reducible exact Y0.drew | with_reducible exact hHeld.below hb5 | with_reducible exact hHeld.below hb6 | with_reducible exact hHeld.below hb7 | with_reducible exact hHeld | with_reducible exact hHeld.below hb8)
        clear hK K hHeld
        have hHeld := hHeld2
        clear hHeld2
        try simp only [Act.put, sa7, sb7, sc7]
        refine wtk7 (i := 37) (v := (Value.bool true)) (ga7 rfl) (by kernel_rfl) (fun _ _ _ h => h) ⟨by rfl, ?hy338⟩ (by assumption) ?rest338
        case hy338 => (intro wq hSw; (try simp only [Two, YX] at hSw); go_simp; (all_goals (first | rfl | simp)))
        try simp only [Act.put, sa7, sb7, sc7]
        refine wtk7 (i := 38) (v := ?v339) (ga7 rfl) (by kernel_rfl) (fun _ _ _ h => h) ⟨by rfl, ?hy339⟩ (by assumption) ?rest339
        case hy339 => (intro wq hSw; (try simp only [Two, YX] at hSw); go_simp; try with_reducible rfl)
        try simp only [Act.put, sa7, sb7, sc7]
        refine wtk7 (i := 39) (v := ?v340) (ga7 rfl) (by kernel_rfl) (fun _ _ _ h => h) ⟨by rfl, ?hy340⟩ (by assumption) ?rest340
        case hy340 => (intro wq hSw; (try simp only [Two, YX] at hSw); go_simp; try with_reducible rfl)
        try simp only [Act.put, sa7, sb7, sc7]
        refine wpAnyH_done (by kernel_rfl) ?fin300 _
        have B9 := hide hHeld.2.out.1.kn.bel
        clear hHeld Y0 U1
        go_wp2
        go_ret
        exact ⟨by first | rfl | simp, B9.out⟩

theorem bplay_walk {v : Bool} {h l b k : Int} {n len cap bo oo : Nat} {xo : Option Addr} (hp : IsNum h l n) (w : World) (hA : BActsAt w xo len bo oo) (hL : LW w) (hT : TB w) :
    Calls Tryz.prog 4 #[pv v h l b, .int .i64 k, .slice xo len cap] w fun e w' => e = .returned (.bool true) ∧ Below w.heap.size w w' := by
  cases hc : cutB v n b k
  · exact bplay_arg hp hc w hL hT
  · by_cases hk : 16 < (k - b).toNat
    · exact bplay_long hp hc hk w hL hT
    · by_cases hk2 : k - b ≤ 8
      · have hs : smB v n b k = true := by unfold smB; rw [hc, decide_eq_true hk2]; rfl
        obtain ⟨O, hN⟩ := smB_of hp hs
        exact bplay_main O hN hs w hA hL hT
      · exact bplay_big hp hc hk hk2 w hL hT
end Go.Proofs.YtllidkflgjjkfaaGreatDoor
