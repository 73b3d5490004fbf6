/-
  Texts PoO2 of the proof.
-/
import Derived.Test.YtighdocmncbdnaaGreatDoorQOn47

namespace Go.Proofs.YtighdocmncbdnaaGreatDoor
open Go.ChangeShapes Go.WideShapes Go.ChangeAt Go.RowKit
set_option linter.unusedVariables false
set_option linter.unusedSimpArgs false

/-- What the inner loop reads: an address of its own, and one of the row. -/
def OX (w : World) (base : Nat) (v : Bool) (h l b : Int) (x a g N : Nat) (f : Nat → Bool) (n : Nat) (u : Value) (gs : List Nat) (X : Nat) (ah al : Int) (B o : Nat) (ch cl : Int) (W : World) : Prop :=
  (W.cell? ⟨X, 0, none⟩ = some (.bool v) ∧ W.cell? ⟨X, 1, none⟩ = some (.int .u64 ah) ∧ W.cell? ⟨X, 2, none⟩ = some (.int .u64 al) ∧ W.cell? ⟨B, o, none⟩ = some (.bool v) ∧ W.cell? ⟨B, o + 1, none⟩ = some (.int .u64 ch) ∧ W.cell? ⟨B, o + 2, none⟩ = some (.int .u64 cl)) ∧
  Hid (OSt w base v h l b x a g N f n u gs W ∧ Kn w [(X, [.bool v, .int .u64 ah, .int .u64 al], 26), (w.heap.size, [.bool v, .int .u64 h, .int .u64 l, .int .i64 b], 28)] W)

theorem OX.drew {w : World} {base : Nat} {v : Bool} {h l b : Int} {x a g N : Nat} {f : Nat → Bool} {n : Nat} {u : Value} {gs : List Nat} {X : Nat} {ah al : Int} {B o : Nat} {ch cl : Int} {W : World} (s : OX w base v h l b x a g N f n u gs X ah al B o ch cl W) : OX w base v h l b x a g N f n u gs X ah al B o ch cl W.drew :=
  have k : Below W.heap.size W W.drew := by repeat (first | with_reducible exact Below.refl _ _ | with_reducible refine Below.drew ?_ | with_reducible refine Below.alloc ?_ (by first | omega | (simp <;> omega)) _ | with_reducible refine Below.setCell ?_ (by first | omega | (simp <;> omega)) _)
  ⟨s.1, ⟨s.2.out.1.below k, s.2.out.2.below k⟩⟩

/-- What the checks of a round read. -/
def OY (w : World) (base : Nat) (v : Bool) (h l b : Int) (x a g N : Nat) (f : Nat → Bool) (n : Nat) (u : Value) (gs : List Nat) (X : Nat) (ah al : Int) (W : World) : Prop :=
  (W.cell? ⟨X, 0, none⟩ = some (.bool v) ∧ W.cell? ⟨X, 1, none⟩ = some (.int .u64 ah) ∧ W.cell? ⟨X, 2, none⟩ = some (.int .u64 al) ∧ W.cell? ⟨w.heap.size, 0, none⟩ = some (.bool v) ∧ W.cell? ⟨w.heap.size, 1, none⟩ = some (.int .u64 h) ∧ W.cell? ⟨w.heap.size, 2, none⟩ = some (.int .u64 l) ∧ W.cell? ⟨w.heap.size, 3, none⟩ = some (.int .i64 b)) ∧
  Hid (OSt w base v h l b x a g N f n u gs W ∧ Kn w [(X, [.bool v, .int .u64 ah, .int .u64 al], 26), (w.heap.size, [.bool v, .int .u64 h, .int .u64 l, .int .i64 b], 28)] W)

theorem OY.of {w : World} {base : Nat} {v : Bool} {h l b : Int} {x a g N : Nat} {f : Nat → Bool} {n : Nat} {u : Value} {gs : List Nat} {X : Nat} {ah al : Int} {W : World} (s : OSt w base v h l b x a g N f n u gs W) (k : Kn w [(X, [.bool v, .int .u64 ah, .int .u64 al], 26), (w.heap.size, [.bool v, .int .u64 h, .int .u64 l, .int .i64 b], 28)] W) : OY w base v h l b x a g N f n u gs X ah al W :=
  ⟨⟨k.2.1.1.cell 0, k.2.1.1.cell 1, k.2.1.1.cell 2, k.2.1.2.1.cell 0, k.2.1.2.1.cell 1, k.2.1.2.1.cell 2, k.2.1.2.1.cell 3⟩, ⟨s, k⟩⟩

theorem OY.below {w : World} {base : Nat} {v : Bool} {h l b : Int} {x a g N : Nat} {f : Nat → Bool} {n : Nat} {u : Value} {gs : List Nat} {X : Nat} {ah al : Int} {W W' : World} (s : OY w base v h l b x a g N f n u gs X ah al W) (k : Below W.heap.size W W') : OY w base v h l b x a g N f n u gs X ah al W' := OY.of (s.2.out.1.below k) (s.2.out.2.below k)

theorem OY.drew {w : World} {base : Nat} {v : Bool} {h l b : Int} {x a g N : Nat} {f : Nat → Bool} {n : Nat} {u : Value} {gs : List Nat} {X : Nat} {ah al : Int} {W : World} (s : OY w base v h l b x a g N f n u gs X ah al W) : OY w base v h l b x a g N f n u gs X ah al W.drew := s.below (by repeat (first | with_reducible exact Below.refl _ _ | with_reducible refine Below.drew ?_ | with_reducible refine Below.alloc ?_ (by first | omega | (simp <;> omega)) _ | with_reducible refine Below.setCell ?_ (by first | omega | (simp <;> omega)) _))

/-- A cell of the row. -/
theorem row_at {W : World} {base k n : Nat} {v : Bool} {u : Value} {gs : List Nat} (h : W.ownsRow base 26 3 u k (cellsG v n gs)) (hk : k = gs.length) {j : Nat} (hj : j < gs.length) : ∃ B cap, u = .slice (some ⟨B, 0, none⟩) k cap ∧ W.cell? ⟨B, j * 3, none⟩ = some (.bool v) ∧ W.cell? ⟨B, j * 3 + 1, none⟩ = some (.int .u64 (((n + gs[j]) / 18446744073709551616 : Nat) : Int)) ∧ W.cell? ⟨B, j * 3 + 2, none⟩ = some (.int .u64 (((n + gs[j]) % 18446744073709551616 : Nat) : Int)) := by
  obtain ⟨h0, h1, h2⟩ := cellsG_at v n gs j hj
  have ad : ∀ B i : Nat, (⟨B, 0, none⟩ : Addr).add i = ⟨B, i, none⟩ := fun B i => by
    unfold Addr.add
    split <;> simp_all
  rcases h.2 with ⟨_, q⟩ | ⟨B, cap, cur, q, _⟩
  · omega
  · refine ⟨B, cap, q, ?_, ?_, ?_⟩
    · have := h.cells (g := B) (by rw [q]; rfl) _ _ h0
      rwa [ad] at this
    · have := h.cells (g := B) (by rw [q]; rfl) _ _ h1
      rwa [ad] at this
    · have := h.cells (g := B) (by rw [q]; rfl) _ _ h2
      rwa [ad] at this

set_option maxRecDepth 100000 in
set_option maxHeartbeats 1600000 in
theorem ponce_out {v : Bool} {h l b : Int} {n len cap : Nat} {xo : Option Addr} (hp : IsNum h l n) (hlen : len ≤ 9223372036854775807) (hc : cnP v n b = 0 ∨ (¬ cnP v n b = 0 ∧ 512 < cnP v n b) ∨ (¬ cnP v n b = 0 ∧ ¬ 512 < cnP v n b ∧ 20 < len)) (w : World) (hL : LW w) (hT : TB w) :
    Calls Tryz.prog 6 #[pv v h l b, .slice xo len cap] w fun e w' => e = .returned (.bool true) ∧ Below w.heap.size w w' := by
  have hz := hL.sz
  have K := pfx_start w v h l b
  have AW := hide (awake6_c _ (hL.of K.bel hz) (hT.below K.bel))
  have CN := hide (fun w' => rcount06_c (v := v) (b := b) hp w')
  have le : cnP v n b ≤ 65536 := by unfold cnP; have := szP_le (v := v) (n := n) (b := b); split <;> omega
  obtain ⟨N, hN⟩ : ∃ N, cnP v n b = N := ⟨_, rfl⟩
  rw [hN] at CN hc le
  have KH := hide K
  clear hL hT hz hp hN K
  rcases hc with c | ⟨c1, c2⟩ | ⟨c1, c2, c3⟩
  · subst c
    go_enter Tryz.func6, Tryz.ntmps6
    go_wp2_with fail
    refine AW.out.mono ?_
    rintro e w0 ⟨rfl, hb⟩
    have K0 := hide (KH.out.below hb)
    have F := K0.out.1
    simp only [Facts, CellsAt] at F
    clear AW hb KH
    go_wp2_with fail
    refine (CN.out _).mono ?_
    rintro e w1 ⟨rfl, hb⟩
    have B := (K0.out.below hb).bel
    clear CN hb K0 F
    go_wp2
    go_ret
    exact ⟨by first | rfl | simp, B⟩
  · have d1 : ¬ (N : Int) = 0 := by omega
    have d2 : (N : Int) > 512 := by omega
    clear c1 c2
    go_enter Tryz.func6, Tryz.ntmps6
    go_wp2_with fail
    refine AW.out.mono ?_
    rintro e w0 ⟨rfl, hb⟩
    have K0 := hide (KH.out.below hb)
    have F := K0.out.1
    simp only [Facts, CellsAt] at F
    clear AW hb KH
    go_wp2_with fail
    refine (CN.out _).mono ?_
    rintro e w1 ⟨rfl, hb⟩
    have B := (K0.out.below hb).bel
    clear CN hb K0 F
    go_wp2
    go_ret
    exact ⟨by first | rfl | simp, B⟩
  · have d1 : ¬ (N : Int) = 0 := by omega
    have d2 : ¬ (N : Int) > 512 := by omega
    have d3 : (len : Int) > 20 := by omega
    clear c1 c2 c3
    go_enter Tryz.func6, Tryz.ntmps6
    go_wp2_with fail
    refine AW.out.mono ?_
    rintro e w0 ⟨rfl, hb⟩
    have K0 := hide (KH.out.below hb)
    have F := K0.out.1
    simp only [Facts, CellsAt] at F
    clear AW hb KH
    go_wp2_with fail
    refine (CN.out _).mono ?_
    rintro e w1 ⟨rfl, hb⟩
    have B := (K0.out.below hb).bel
    clear CN hb K0 F
    go_wp2
    go_ret
    exact ⟨by first | rfl | simp, B⟩

set_option maxRecDepth 100000 in
set_option maxHeartbeats 6400000 in
theorem ponce_main {v : Bool} {h l b : Int} {n len cap bo oo : Nat} {xo : Option Addr} (hp : IsNum h l n) (hlen : len ≤ 20) (h4 : 4 ≤ szP v n b) (h5 : szP v n b ≤ 512) (w : World) (hA : IntsAt w xo len bo oo) (hL : LW w) (hT : TB w) :
    Calls Tryz.prog 6 #[pv v h l b, .slice xo len cap] w fun e w' => e = .returned (.bool true) ∧ Below w.heap.size w w' := by
  have hz := hL.sz
  have K := pfx_start w v h l b
  have h0 : 0 < szP v n b := by omega
  have ok := szP_ok h0
  have AW := hide (awake6_c _ (hL.of K.bel hz) (hT.below K.bel))
  have CN := hide (fun w' => rcount06_c (v := v) (b := b) hp w')
  have e0 : cnP v n b = szP v n b := by unfold cnP; rw [if_pos h4]
  rw [e0] at CN
  have NW := hide (fun w' => poNew_ok (v := v) (b := b) hp h4 w')
  obtain ⟨f0, hf0⟩ : ∃ f0, kpF (lkP v b) (szP v n b) = f0 := ⟨_, rfl⟩
  have TH := hide (fun W (hb : Below w.heap.size w W) => hT.below hb)
  have AH := hide hA
  obtain ⟨i0, hinf, hz0, hz1, hz2⟩ := info_parts infoAddr
  -- the calls of a round
  have NX := hide (fun (z : Int) (z0 : -9223372036854775808 ≤ z) (z1 : z ≤ 9223372036854775807) (f : Nat → Bool) (p : Nat) (hnx : nextF f (szP v n b) (z.toNat % szP v n b) = some p) (hpN : p < szP v n b) x a g w' (hT' : TB w') (P' : PoAt w' v h l b x a g (szP v n b) f) => poNext_ok hp h0 z0 z1 hnx (num_parts (host_lt hp.lt ok hpN).1) w' hT' P')
  have NF := hide (fun (z : Int) (z0 : -9223372036854775808 ≤ z) (z1 : z ≤ 9223372036854775807) (f : Nat → Bool) (hnx : nextF f (szP v n b) (z.toNat % szP v n b) = none) x a g w' (hT' : TB w') (P' : PoAt w' v h l b x a g (szP v n b) f) => poNext_full h0 z0 z1 hnx w' hT' P')
  have HS := hide (fun (p : Nat) (hpN : p < szP v n b) w' => (host_has hp.lt ok hpN ▸ has_c (v := v) (u := v) (b := b) hp (num_parts (host_lt hp.lt ok hpN).1) w' : Calls Tryz.prog 40 #[pv v h l b, av v (((n + p) / 18446744073709551616 : Nat) : Int) (((n + p) % 18446744073709551616 : Nat) : Int)] w' fun e w1 => e = .returned (.bool true) ∧ Below w'.heap.size w' w1))
  have FI := hide (fun w' => first_c (v := v) (b := b) hp (Or.inl ⟨ok, rfl, rfl, rfl⟩) w')
  obtain ⟨lh, ll, hl⟩ := IsNum.ex (n := lastN v n b) (lastN_small ok hp.lt).1
  have LA := hide (fun w' => last_ok (v := v) (b := b) hp ok hl w')
  have NE : Hid (∀ p, p < szP v n b → f0 p = false → (¬ ((((n + p) / 18446744073709551616 : Nat) : Int) = h ∧ (((n + p) % 18446744073709551616 : Nat) : Int) = l)) ∧ (v = false → ¬ ((((n + p) / 18446744073709551616 : Nat) : Int) = lh ∧ (((n + p) % 18446744073709551616 : Nat) : Int) = ll))) := fun p hpN hk => by
    obtain ⟨g1, g2⟩ := given_ne ok hpN h5 (by rw [hf0]; exact hk)
    have np := num_parts (host_lt hp.lt ok hpN).1
    exact ⟨fun c => g1 ((np.inj hp).2 c), fun hv c => g2 hv ((np.inj hl).2 c)⟩
  have NU : Hid (∀ p q, p < szP v n b → q < szP v n b → p ≠ q → ¬ ((((n + p) / 18446744073709551616 : Nat) : Int) = (((n + q) / 18446744073709551616 : Nat) : Int) ∧ (((n + p) % 18446744073709551616 : Nat) : Int) = (((n + q) % 18446744073709551616 : Nat) : Int))) := fun p q h1 h2 hne c => by
    have := ((num_parts (host_lt hp.lt ok h1).1).inj (num_parts (host_lt hp.lt ok h2).1)).2 c
    omega
  have LF := hide (fun (f : Nat → Bool) (C : Int) (hC : ((szP v n b : Nat) : Int) - (cnt f (szP v n b) : Nat) = C) x a g w' (P' : PoAt w' v h l b x a g (szP v n b) f) => poLeft_c hC w' P')
  have US := hide (fun (f : Nat → Bool) x a g w' (P' : PoAt w' v h l b x a g (szP v n b) f) => poUsed_c hp h0 (f' := fun p => f p && !kpF (lkP v b) (szP v n b) p) rfl w' P')
  rw [hf0] at NW US
  obtain ⟨N, hN⟩ : ∃ N, szP v n b = N := ⟨_, rfl⟩
  rw [hN] at CN NW NX NF HS NE NU LF US h4 h5
  have c0 : cnt f0 N ≤ N := cnt_le _ _
  obtain ⟨M, hM⟩ : ∃ M, N = cnt f0 N + M := ⟨N - cnt f0 N, by omega⟩
  have HM := hide hM
  have M6 : M ≤ 512 := by omega
  have KH := hide K
  clear hL hz hp h0 ok K e0 hf0 hl hT hA hN c0 hM
  have d1 : ((N : Int) == 0) = false := by simp; omega
  have d2 : decide (512 < (N : Int)) = false := by simp; omega
  have d3 : decide (20 < (len : Int)) = false := by simp; omega
  have d4 : ((N : Int) == 0 || decide (512 < (N : Int)) || decide (20 < (len : Int))) = false := by rw [d1, d2, d3]; rfl
  go_enter Tryz.func6, Tryz.ntmps6
  go_wp2_with fail
  refine AW.out.mono ?_
  rintro e w0 ⟨rfl, hb⟩
  have K0 := hide (KH.out.below hb)
  have F := K0.out.1
  simp only [Facts, CellsAt] at F
  clear AW hb KH
  go_wp2_with fail
  refine (CN.out _).mono ?_
  rintro e w1 ⟨rfl, hb⟩
  have K1 := hide (K0.out.below hb)
  have F1 := K1.out.1
  simp only [Facts, CellsAt] at F1
  clear CN hb K0 F
  go_wp2_with fail
  refine (NW.out _).mono ?_
  rintro e w2 ⟨x, a, g, rfl, hP, hb, hx, hg⟩
  have K2 := hide (K1.out.below hb)
  have P2 := hide hP
  have q0 := K1.out.lts.1
  have LE := hide (LF.out f0 (M : Int) (by have := HM.out; omega) x a g w2 hP)
  clear NW hb K1 F1 hP
  go_wp2_with fail
  refine LE.out.mono ?_
  rintro e w3 ⟨rfl, hb⟩
  have P3 := P2.out.below hb
  have K3 := K2.out.below hb
  have q1 := P3.m.lt
  have q2 := P3.hd.lt
  have q3 := K3.lts.1
  have bl : Below w3.heap.size w3 (w3.alloc (.cells #[] 26)) := by repeat (first | with_reducible exact Below.refl _ _ | with_reducible refine Below.drew ?_ | with_reducible refine Below.alloc ?_ (by first | omega | (simp <;> omega)) _ | with_reducible refine Below.setCell ?_ (by first | omega | (simp <;> omega)) _)
  have S0 : Hid (OSt w w3.heap.size v h l b x a g N f0 n (.slice (some ⟨w3.heap.size, 0, none⟩) 0 0) [] (w3.alloc (.cells #[] 26))) := ⟨K3.below bl, P3.below bl, World.ownsRow_made _ _ _ (Nat.le_refl _) (Nat.zero_le _) rfl, by omega, ⟨q1.2.1, q2, q1.1, q3⟩, bl.size⟩
  have G0 := hide (GOk.start f0 N)
  clear LE hb K2 P2 q0 q1 q2 q3 bl hx hg P3 K3
  go_wp2_with fail
  go_loopw [9, 10] (fun u iv wr => ∃ (i : Nat) (f : Nat → Bool) (gs : List Nat), i ≤ M + 1 ∧ iv = .int .i64 i ∧ gs.length = min i M ∧ Hid (GOk f0 f N gs) ∧ Hid (OSt w w3.heap.size v h l b x a g N f n u gs wr)) (fun _ iv _ => M + 2 - (intOf iv).toNat)
  case atStart => exact ⟨0, f0, [], by omega, rfl, by simp, G0, S0⟩
  case round =>
    clear S0 G0
    obtain ⟨i, f, gs, hi, rfl, hgl, G, S⟩ := hrel
    by_cases hlt : i ≤ M
    · have hlt' : (i : Int) ≤ M := by omega
      go_upto_if 47 with fail
      go_cut [11] (fun t wc => ∃ z : Int, -9223372036854775808 ≤ z ∧ z ≤ 9223372036854775807 ∧ t = .int .i64 z ∧ wc = wr)
      case first =>
        clear NX NF HS FI LA NE NU LF US HM TH
        by_cases hl0 : len = 0
        · subst hl0
          clear d4 d3
          go_wp2
          go_meet
          case rel => exact ⟨0, by omega, by omega, rfl, rfl⟩
        · have hl1 : (len : Int) > 0 := by omega
          obtain ⟨ho, _, hc⟩ := AH.out.below S.out.k.bel
          obtain ⟨z, ⟨z0, z1⟩, c⟩ := hc (i % len) (Nat.mod_lt _ (by omega))
          obtain rfl : xo = some ⟨bo, oo, none⟩ := ho.resolve_right hl0
          have hz : ((len : Int) == 0) = false := by simp; omega
          obtain ⟨q, hq⟩ : ∃ q, i % len = q := ⟨_, rfl⟩
          have hm : (i : Int) % (len : Int) = (q : Int) := by rw [← hq]; simp
          have hql : q < len := by rw [← hq]; exact Nat.mod_lt _ (by omega)
          have hql' : (q : Int) < len := by omega
          rw [hq] at c
          clear hc hq ho AH G S hl0
          go_wp2
          go_meet
          case rel => exact ⟨z, z0, z1, by first | rfl | simp [*], rfl⟩
      case rest =>
        obtain ⟨z, z0, z1, rfl, rfl⟩ := hcut
        have N0 : 0 < N := by omega
        by_cases hiM : i < M
        · have hiM' : (i : Int) < M := by omega
          have hgi : gs.length = i := by omega
          have hcnt : cnt f N < N := by
            have a1 := G.out.num
            have a2 := HM.out
            omega
          obtain ⟨p, hnx, hpN, hfp⟩ := next_some (s := z.toNat % N) (Nat.mod_lt _ N0) hcnt
          have hf0 : f0 p = false := by
            cases e : f0 p
            · rfl
            · rw [G.out.more p e] at hfp; cases hfp
          obtain ⟨ah, hah⟩ : ∃ ah : Int, (((n + p) / 18446744073709551616 : Nat) : Int) = ah := ⟨_, rfl⟩
          obtain ⟨al, hal⟩ : ∃ al : Int, (((n + p) % 18446744073709551616 : Nat) : Int) = al := ⟨_, rfl⟩
          have N1 := NX.out z z0 z1 f p hnx hpN x a g wc (TH.out _ S.out.k.bel) S.out.p
          have H1 := HS.out p hpN
          have E1 := (NE.out p hpN hf0).1
          have E2 := (NE.out p hpN hf0).2
          have U1 : ∀ q, q ∈ gs → ¬ ((((n + q) / 18446744073709551616 : Nat) : Int) = ah ∧ (((n + q) % 18446744073709551616 : Nat) : Int) = al) := fun q hq => by
            rw [← hah, ← hal]
            obtain ⟨hu, hqN⟩ := G.out.used q hq
            exact NU.out q p hqN hpN (fun e => by rw [e, hfp] at hu; cases hu)
          rw [hah, hal] at N1 H1 E1 E2
          have N1H := hide N1
          have H1H := hide H1
          have E1H := hide E1
          have E2H := hide E2
          have U1H := hide U1
          have HA := hide hah
          have HB := hide hal
          have G1 := hide (G.out.give hpN hfp)
          clear N1 H1 E1 E2 U1 hah hal hnx hpN hfp hf0 hcnt NX NF HS NE NU LF US
          go_wp2_with fail
          refine N1H.out.mono ?_
          rintro e w4 ⟨rfl, hP, hK⟩
          have S4 := S.out.turn hP hK
          have bl : Below w4.heap.size w4 (w4.alloc (.cells #[.bool v, .int .u64 ah, .int .u64 al] 26)) := by repeat (first | with_reducible exact Below.refl _ _ | with_reducible refine Below.drew ?_ | with_reducible refine Below.alloc ?_ (by first | omega | (simp <;> omega)) _ | with_reducible refine Below.setCell ?_ (by first | omega | (simp <;> omega)) _)
          have K4 := hide (S4.k.push (b := w4.heap.size) (cs := [.bool v, .int .u64 ah, .int .u64 al]) (t := 26) rfl)
          have S5 := hide (S4.below bl)
          have hg4 := hgi
          clear N1H hP hK S4 bl S
          go_wp2_with fail
          go_loopw [14] (fun jv wr2 => ∃ j : Nat, j ≤ gs.length ∧ jv = .int .i64 j ∧ Hid (OSt w w3.heap.size v h l b x a g N (upd f p true) n u9 gs wr2) ∧ Hid (Kn w [(w4.heap.size, [.bool v, .int .u64 ah, .int .u64 al], 26), (w.heap.size, [.bool v, .int .u64 h, .int .u64 l, .int .i64 b], 28)] wr2)) (fun jv _ => gs.length - (intOf jv).toNat)
          case atStart => exact ⟨0, by omega, rfl, S5, K4⟩
          case round =>
            clear S5 K4
            obtain ⟨j, hj, rfl, S6, K6⟩ := hrel
            by_cases hjl : j < gs.length
            · obtain ⟨B0, cap0, rfl, c0, c1, c2⟩ := row_at S6.out.row rfl hjl
              obtain ⟨ch, hch⟩ : ∃ ch : Int, (((n + gs[j]) / 18446744073709551616 : Nat) : Int) = ch := ⟨_, rfl⟩
              obtain ⟨cl, hcl⟩ : ∃ cl : Int, (((n + gs[j]) % 18446744073709551616 : Nat) : Int) = cl := ⟨_, rfl⟩
              have hne := U1H.out gs[j] (List.getElem_mem hjl)
              rw [hch, hcl] at hne
              rw [hch] at c1
              rw [hcl] at c2
              have HNE := hide hne
              have O0 : (OX w w3.heap.size v h l b x a g N (upd f p true) n (.slice (some ⟨B0, 0, none⟩) gs.length cap0) gs w4.heap.size ah al B0 (j * 3) ch cl) wr := ⟨⟨K6.out.2.1.1.cell 0, K6.out.2.1.1.cell 1, K6.out.2.1.1.cell 2, c0, c1, c2⟩, ⟨S6.out, K6.out⟩⟩
              have hjl' : (j : Int) < (gs.length : Nat) := by omega
              clear hne hch hcl c0 c1 c2 S6 K6
              go_wp2_with fail
              refine wp_region_held_drew (S := (OX w w3.heap.size v h l b x a g N (upd f p true) n (.slice (some ⟨B0, 0, none⟩) gs.length cap0) gs w4.heap.size ah al B0 (j * 3) ch cl)) (by kernel_rfl) ?hS100 (fun hHeld => ?rest100)
              case hS100 => (first | with_reducible exact O0.drew)
              refine wpAnyH_take (i := 0) (oi := _) (v := ?v101) (List.getElem?_toArray.trans rfl) (by kernel_rfl) (by kernel_rfl) (by kernel_rfl) (fun _ _ _ h => h) (Or.inl ⟨by rfl, ?hy101⟩) (by assumption) ?rest101
              case hy101 => (intro wq hSw; (try simp only [Two, OX] at hSw); go_simp; try with_reducible rfl)
              try simp only [Act.put, List.setIfInBounds_toArray, List.set_cons_zero, List.set_cons_succ]
              refine wpAnyH_take (i := 1) (oi := _) (v := ?v102) (List.getElem?_toArray.trans rfl) (by kernel_rfl) (by kernel_rfl) (by kernel_rfl) (fun _ _ _ h => h) (Or.inl ⟨by rfl, ?hy102⟩) (by assumption) ?rest102
              case hy102 => (intro wq hSw; (try simp only [Two, OX] at hSw); go_simp; try with_reducible rfl)
              try simp only [Act.put, List.setIfInBounds_toArray, List.set_cons_zero, List.set_cons_succ]
              refine wpAnyH_take (i := 2) (oi := _) (v := ?v103) (List.getElem?_toArray.trans rfl) (by kernel_rfl) (by kernel_rfl) (by kernel_rfl) (fun _ _ _ h => h) (Or.inl ⟨by rfl, ?hy103⟩) (by assumption) ?rest103
              case hy103 => (intro wq hSw; (try simp only [Two, OX] at hSw); go_simp; try with_reducible rfl)
              try simp only [Act.put, List.setIfInBounds_toArray, List.set_cons_zero, List.set_cons_succ]
              refine wpAnyH_take (i := 3) (oi := _) (v := ?v104) (List.getElem?_toArray.trans rfl) (by kernel_rfl) (by kernel_rfl) (by kernel_rfl) (fun _ _ _ h => h) (Or.inl ⟨by rfl, ?hy104⟩) (by assumption) ?rest104
              case hy104 => (intro wq hSw; (try simp only [Two, OX] at hSw); go_simp; try with_reducible rfl)
              try simp only [Act.put, List.setIfInBounds_toArray, List.set_cons_zero, List.set_cons_succ]
              refine wpAnyH_take (i := 4) (oi := _) (v := ?v105) (List.getElem?_toArray.trans rfl) (by kernel_rfl) (by kernel_rfl) (by kernel_rfl) (fun _ _ _ h => h) (Or.inl ⟨by rfl, ?hy105⟩) (by assumption) ?rest105
              case hy105 => (intro wq hSw; (try simp only [Two, OX] at hSw); go_simp; try with_reducible rfl)
              try simp only [Act.put, List.setIfInBounds_toArray, List.set_cons_zero, List.set_cons_succ]
              refine wpAnyH_take (i := 5) (oi := _) (v := (.bool false)) (List.getElem?_toArray.trans rfl) (by kernel_rfl) (by kernel_rfl) (by kernel_rfl) (fun _ _ _ h => h) (Or.inl ⟨by rfl, ?hy106⟩) (by assumption) ?rest106
              case hy106 => (intro wq hSw; (try simp only [Two, OX] at hSw); go_simp; (all_goals (exact fun c d => HNE.out ⟨c, d⟩)))
              try simp only [Act.put, List.setIfInBounds_toArray, List.set_cons_zero, List.set_cons_succ]
              refine wpAnyH_done (by kernel_rfl) ?fin100 _
              have S7 := hide hHeld.2.out.1
              have K7 := hide hHeld.2.out.2
              clear hHeld O0 HNE
              go_wp2
              go_roundw
              case rel => exact ⟨j + 1, by omega, by go_num, S7, K7⟩
              case measure => simp [intOf]; omega
            · have hjl' : ¬ (j : Int) < (gs.length : Nat) := by omega
              obtain ⟨qa, cap0, hu9⟩ : ∃ qa cap0, u9 = .slice qa i cap0 := by
                rcases S6.out.row.2 with ⟨h1, h2⟩ | ⟨gB, cap, cur, h1, _⟩
                · exact ⟨none, 0, by rw [h1, ← hgi, h2]⟩
                · exact ⟨some ⟨gB, 0, none⟩, cap, by rw [h1, hgi]⟩
              subst hu9
              cases v
              · have O1 := OY.of S6.out K6.out
                clear S6 K6
                go_wp2_with fail
                refine wp_region_held_drew (S := (OY w w3.heap.size false h l b x a g N (upd f p true) n (.slice qa i cap0) gs w4.heap.size ah al)) (by kernel_rfl) ?hS200 (fun hHeld => ?rest200)
                case hS200 => (first | with_reducible exact O1.drew | with_reducible exact hHeld.below hb4 | with_reducible exact hHeld.below hb5 | with_reducible exact hHeld.below hb6)
                refine wpAnyH_take (i := 0) (oi := _) (v := ?v201) (List.getElem?_toArray.trans rfl) (by kernel_rfl) (by kernel_rfl) (by kernel_rfl) (fun _ _ _ h => h) (Or.inl ⟨by rfl, ?hy201⟩) (by assumption) ?rest201
                case hy201 => (intro wq hSw; (try simp only [Two, OY] at hSw); go_simp; try with_reducible rfl)
                try simp only [Act.put, List.setIfInBounds_toArray, List.set_cons_zero, List.set_cons_succ]
                refine wpAnyH_take (i := 1) (oi := _) (v := ?v202) (List.getElem?_toArray.trans rfl) (by kernel_rfl) (by kernel_rfl) (by kernel_rfl) (fun _ _ _ h => h) (Or.inl ⟨by rfl, ?hy202⟩) (by assumption) ?rest202
                case hy202 => (intro wq hSw; (try simp only [Two, OY] at hSw); go_simp; try with_reducible rfl)
                try simp only [Act.put, List.setIfInBounds_toArray, List.set_cons_zero, List.set_cons_succ]
                refine wpAnyH_ready (rs := [2]) (by kernel_rfl) (by simp) ?rdy203
                refine AllReadyH.cons (List.getElem?_toArray.trans rfl) (fun K hK => ?stp203) AllReadyH.nil
                go_simp
                go_wp2_with fail
                (refine (H1H.out _).mono ?_; rintro e w7 ⟨rfl, hb4⟩)
                go_wp2_with fail
                refine hK.out _ _ ?hSn203 (fun hHeld2 => ?rest203)
                case hSn203 => (first | with_reducible exact O1.drew | with_reducible exact hHeld.below hb4 | with_reducible exact hHeld.below hb5 | with_reducible exact hHeld.below hb6)
                clear hK K hHeld
                have hHeld := hHeld2
                clear hHeld2
                try simp only [Act.put, List.setIfInBounds_toArray, List.set_cons_zero, List.set_cons_succ]
                refine wpAnyH_take (i := 3) (oi := _) (v := ?v204) (List.getElem?_toArray.trans rfl) (by kernel_rfl) (by kernel_rfl) (by kernel_rfl) (fun _ _ _ h => h) (Or.inl ⟨by rfl, ?hy204⟩) (by assumption) ?rest204
                case hy204 => (intro wq hSw; (try simp only [Two, OY] at hSw); go_simp; try with_reducible rfl)
                try simp only [Act.put, List.setIfInBounds_toArray, List.set_cons_zero, List.set_cons_succ]
                refine wpAnyH_take (i := 4) (oi := _) (v := ?v205) (List.getElem?_toArray.trans rfl) (by kernel_rfl) (by kernel_rfl) (by kernel_rfl) (fun _ _ _ h => h) (Or.inl ⟨by rfl, ?hy205⟩) (by assumption) ?rest205
                case hy205 => (intro wq hSw; (try simp only [Two, OY] at hSw); go_simp; try with_reducible rfl)
                try simp only [Act.put, List.setIfInBounds_toArray, List.set_cons_zero, List.set_cons_succ]
                refine wpAnyH_take (i := 5) (oi := _) (v := ?v206) (List.getElem?_toArray.trans rfl) (by kernel_rfl) (by kernel_rfl) (by kernel_rfl) (fun _ _ _ h => h) (Or.inl ⟨by rfl, ?hy206⟩) (by assumption) ?rest206
                case hy206 => (intro wq hSw; (try simp only [Two, OY] at hSw); go_simp; try with_reducible rfl)
                try simp only [Act.put, List.setIfInBounds_toArray, List.set_cons_zero, List.set_cons_succ]
                refine wpAnyH_take (i := 6) (oi := _) (v := ?v207) (List.getElem?_toArray.trans rfl) (by kernel_rfl) (by kernel_rfl) (by kernel_rfl) (fun _ _ _ h => h) (Or.inl ⟨by rfl, ?hy207⟩) (by assumption) ?rest207
                case hy207 => (intro wq hSw; (try simp only [Two, OY] at hSw); go_simp; try with_reducible rfl)
                try simp only [Act.put, List.setIfInBounds_toArray, List.set_cons_zero, List.set_cons_succ]
                refine wpAnyH_ready (rs := [7]) (by kernel_rfl) (by simp) ?rdy208
                refine AllReadyH.cons (List.getElem?_toArray.trans rfl) (fun K hK => ?stp208) AllReadyH.nil
                go_simp
                go_wp2_with fail
                (refine (FI.out _).mono ?_; rintro e w8 ⟨rfl, hb5⟩)
                go_wp2_with fail
                refine hK.out _ _ ?hSn208 (fun hHeld2 => ?rest208)
                case hSn208 => (first | with_reducible exact O1.drew | with_reducible exact hHeld.below hb4 | with_reducible exact hHeld.below hb5 | with_reducible exact hHeld.below hb6)
                clear hK K hHeld
                have hHeld := hHeld2
                clear hHeld2
                try simp only [Act.put, List.setIfInBounds_toArray, List.set_cons_zero, List.set_cons_succ]
                refine wpAnyH_take (i := 8) (oi := _) (v := (.bool false)) (List.getElem?_toArray.trans rfl) (by kernel_rfl) (by kernel_rfl) (by kernel_rfl) (fun _ _ _ h => h) (Or.inl ⟨by rfl, ?hy209⟩) (by assumption) ?rest209
                case hy209 => (intro wq hSw; (try simp only [Two, OY] at hSw); go_simp; (all_goals (exact fun c d => E1H.out ⟨c, d⟩)))
                try simp only [Act.put, List.setIfInBounds_toArray, List.set_cons_zero, List.set_cons_succ]
                refine wpAnyH_take (i := 9) (oi := _) (v := ?v210) (List.getElem?_toArray.trans rfl) (by kernel_rfl) (by kernel_rfl) (by kernel_rfl) (fun _ _ _ h => h) (Or.inl ⟨by rfl, ?hy210⟩) (by assumption) ?rest210
                case hy210 => (intro wq hSw; (try simp only [Two, OY] at hSw); go_simp; try with_reducible rfl)
                try simp only [Act.put, List.setIfInBounds_toArray, List.set_cons_zero, List.set_cons_succ]
                refine wpAnyH_take (i := 10) (oi := _) (v := ?v211) (List.getElem?_toArray.trans rfl) (by kernel_rfl) (by kernel_rfl) (by kernel_rfl) (fun _ _ _ h => h) (Or.inl ⟨by rfl, ?hy211⟩) (by assumption) ?rest211
                case hy211 => (intro wq hSw; (try simp only [Two, OY] at hSw); go_simp; try with_reducible rfl)
                try simp only [Act.put, List.setIfInBounds_toArray, List.set_cons_zero, List.set_cons_succ]
                refine wpAnyH_take (i := 11) (oi := _) (v := ?v212) (List.getElem?_toArray.trans rfl) (by kernel_rfl) (by kernel_rfl) (by kernel_rfl) (fun _ _ _ h => h) (Or.inl ⟨by rfl, ?hy212⟩) (by assumption) ?rest212
                case hy212 => (intro wq hSw; (try simp only [Two, OY] at hSw); go_simp; try with_reducible rfl)
                try simp only [Act.put, List.setIfInBounds_toArray, List.set_cons_zero, List.set_cons_succ]
                refine wpAnyH_take (i := 12) (oi := _) (v := ?v213) (List.getElem?_toArray.trans rfl) (by kernel_rfl) (by kernel_rfl) (by kernel_rfl) (fun _ _ _ h => h) (Or.inl ⟨by rfl, ?hy213⟩) (by assumption) ?rest213
                case hy213 => (intro wq hSw; (try simp only [Two, OY] at hSw); go_simp; try with_reducible rfl)
                try simp only [Act.put, List.setIfInBounds_toArray, List.set_cons_zero, List.set_cons_succ]
                refine wpAnyH_take (i := 13) (oi := _) (v := ?v214) (List.getElem?_toArray.trans rfl) (by kernel_rfl) (by kernel_rfl) (by kernel_rfl) (fun _ _ _ h => h) (Or.inl ⟨by rfl, ?hy214⟩) (by assumption) ?rest214
                case hy214 => (intro wq hSw; (try simp only [Two, OY] at hSw); go_simp; try with_reducible rfl)
                try simp only [Act.put, List.setIfInBounds_toArray, List.set_cons_zero, List.set_cons_succ]
                refine wpAnyH_take (i := 14) (oi := _) (v := ?v215) (List.getElem?_toArray.trans rfl) (by kernel_rfl) (by kernel_rfl) (by kernel_rfl) (fun _ _ _ h => h) (Or.inl ⟨by rfl, ?hy215⟩) (by assumption) ?rest215
                case hy215 => (intro wq hSw; (try simp only [Two, OY] at hSw); go_simp; try with_reducible rfl)
                try simp only [Act.put, List.setIfInBounds_toArray, List.set_cons_zero, List.set_cons_succ]
                refine wpAnyH_take (i := 15) (oi := _) (v := ?v216) (List.getElem?_toArray.trans rfl) (by kernel_rfl) (by kernel_rfl) (by kernel_rfl) (fun _ _ _ h => h) (Or.inl ⟨by rfl, ?hy216⟩) (by assumption) ?rest216
                case hy216 => (intro wq hSw; (try simp only [Two, OY] at hSw); go_simp; try with_reducible rfl)
                try simp only [Act.put, List.setIfInBounds_toArray, List.set_cons_zero, List.set_cons_succ]
                refine wpAnyH_take (i := 16) (oi := _) (v := ?v217) (List.getElem?_toArray.trans rfl) (by kernel_rfl) (by kernel_rfl) (by kernel_rfl) (fun _ _ _ h => h) (Or.inl ⟨by rfl, ?hy217⟩) (by assumption) ?rest217
                case hy217 => (intro wq hSw; (try simp only [Two, OY] at hSw); go_simp; try with_reducible rfl)
                try simp only [Act.put, List.setIfInBounds_toArray, List.set_cons_zero, List.set_cons_succ]
                refine wpAnyH_ready (rs := [17]) (by kernel_rfl) (by simp) ?rdy218
                refine AllReadyH.cons (List.getElem?_toArray.trans rfl) (fun K hK => ?stp218) AllReadyH.nil
                go_simp
                go_wp2_with fail
                (refine (LA.out _).mono ?_; rintro e w9 ⟨rfl, hb6⟩)
                go_wp2_with fail
                refine hK.out _ _ ?hSn218 (fun hHeld2 => ?rest218)
                case hSn218 => (first | with_reducible exact O1.drew | with_reducible exact hHeld.below hb4 | with_reducible exact hHeld.below hb5 | with_reducible exact hHeld.below hb6)
                clear hK K hHeld
                have hHeld := hHeld2
                clear hHeld2
                try simp only [Act.put, List.setIfInBounds_toArray, List.set_cons_zero, List.set_cons_succ]
                refine wpAnyH_take (i := 18) (oi := _) (v := (.bool false)) (List.getElem?_toArray.trans rfl) (by kernel_rfl) (by kernel_rfl) (by kernel_rfl) (fun _ _ _ h => h) (Or.inl ⟨by rfl, ?hy219⟩) (by assumption) ?rest219
                case hy219 => (intro wq hSw; (try simp only [Two, OY] at hSw); go_simp; (all_goals (exact fun c d => (E2H.out (by first | rfl | trivial)) ⟨c, d⟩)))
                try simp only [Act.put, List.setIfInBounds_toArray, List.set_cons_zero, List.set_cons_succ]
                refine wpAnyH_take (i := 19) (oi := _) (v := ?v220) (List.getElem?_toArray.trans rfl) (by kernel_rfl) (by kernel_rfl) (by kernel_rfl) (fun _ _ _ h => h) (Or.inl ⟨by rfl, ?hy220⟩) (by assumption) ?rest220
                case hy220 => (intro wq hSw; (try simp only [Two, OY] at hSw); go_simp; try with_reducible rfl)
                try simp only [Act.put, List.setIfInBounds_toArray, List.set_cons_zero, List.set_cons_succ]
                refine wpAnyH_take (i := 20) (oi := _) (v := ?v221) (List.getElem?_toArray.trans rfl) (by kernel_rfl) (by kernel_rfl) (by kernel_rfl) (fun _ _ _ h => h) (Or.inl ⟨by rfl, ?hy221⟩) (by assumption) ?rest221
                case hy221 => (intro wq hSw; (try simp only [Two, OY] at hSw); go_simp; try with_reducible rfl)
                try simp only [Act.put, List.setIfInBounds_toArray, List.set_cons_zero, List.set_cons_succ]
                refine wpAnyH_done (by kernel_rfl) ?fin200 _
                obtain ⟨y0, y1, y2, y3, y4, y5, y6⟩ := hHeld.1
                have S9 := hide hHeld.2.out.1
                have hs9 : w3.heap.size ≤ w9.heap.size := S9.out.bs
                have N4 := three_new w9 (.bool false) (.int .u64 ah) (.int .u64 al) 26
                have hone : ∀ u ∈ [Value.bool false, .int .u64 ah, .int .u64 al], u.oneCell' = true := by
                  intro u hu
                  simp at hu
                  rcases hu with rfl | rfl | rfl <;> rfl
                have gl6 : gs.length ≤ 512 := by omega
                clear hHeld O1 H1H E1H E2H FI LA
                go_wp2_with (first | (at_builtin; refine wpList_append_own _ rfl _ _ 55 rfl w3.heap.size 26 i0 (.agg #[.bool false, .int .u64 0, .int .u64 0]) 3 24 Tryz.underlying55 hinf hz0 hz1 hz2 rfl (by decide) _ _ _ rfl (S9.out.row.alloc _) ⟨w9.heap.size, 0, none⟩ 1 1 [.bool false, .int .u64 ah, .int .u64 al] rfl rfl N4 hone ?c3 ?c4 ?c5 ?_))
                case c3 => unfold maxLen; omega
                case c4 => omega
                case c5 => simp; omega
                intro v' w10 hown hgrow _
                rw [← HA.out, ← HB.out] at hown
                rw [show i + 1 = gs.length + 1 by omega] at hown
                have S10 := hide (S9.out.grown hown hgrow)
                clear S9 hown hgrow N4 hone y0 y1 y2 y3 y4 y5 y6
                go_wp2
                go_roundw
                case rel => exact ⟨i + 1, upd f p true, gs ++ [p], by omega, by go_num, by simp; omega, G1, S10⟩
                case measure => simp [intOf]; omega
              · have O1 := OY.of S6.out K6.out
                clear S6 K6
                go_wp2_with fail
                refine wp_region_held_drew (S := (OY w w3.heap.size true h l b x a g N (upd f p true) n (.slice qa i cap0) gs w4.heap.size ah al)) (by kernel_rfl) ?hS300 (fun hHeld => ?rest300)
                case hS300 => (first | with_reducible exact O1.drew | with_reducible exact hHeld.below hb4 | with_reducible exact hHeld.below hb5 | with_reducible exact hHeld.below hb6)
                refine wpAnyH_take (i := 0) (oi := _) (v := ?v301) (List.getElem?_toArray.trans rfl) (by kernel_rfl) (by kernel_rfl) (by kernel_rfl) (fun _ _ _ h => h) (Or.inl ⟨by rfl, ?hy301⟩) (by assumption) ?rest301
                case hy301 => (intro wq hSw; (try simp only [Two, OY] at hSw); go_simp; try with_reducible rfl)
                try simp only [Act.put, List.setIfInBounds_toArray, List.set_cons_zero, List.set_cons_succ]
                refine wpAnyH_take (i := 1) (oi := _) (v := ?v302) (List.getElem?_toArray.trans rfl) (by kernel_rfl) (by kernel_rfl) (by kernel_rfl) (fun _ _ _ h => h) (Or.inl ⟨by rfl, ?hy302⟩) (by assumption) ?rest302
                case hy302 => (intro wq hSw; (try simp only [Two, OY] at hSw); go_simp; try with_reducible rfl)
                try simp only [Act.put, List.setIfInBounds_toArray, List.set_cons_zero, List.set_cons_succ]
                refine wpAnyH_ready (rs := [2]) (by kernel_rfl) (by simp) ?rdy303
                refine AllReadyH.cons (List.getElem?_toArray.trans rfl) (fun K hK => ?stp303) AllReadyH.nil
                go_simp
                go_wp2_with fail
                (refine (H1H.out _).mono ?_; rintro e w7 ⟨rfl, hb4⟩)
                go_wp2_with fail
                refine hK.out _ _ ?hSn303 (fun hHeld2 => ?rest303)
                case hSn303 => (first | with_reducible exact O1.drew | with_reducible exact hHeld.below hb4 | with_reducible exact hHeld.below hb5 | with_reducible exact hHeld.below hb6)
                clear hK K hHeld
                have hHeld := hHeld2
                clear hHeld2
                try simp only [Act.put, List.setIfInBounds_toArray, List.set_cons_zero, List.set_cons_succ]
                refine wpAnyH_take (i := 3) (oi := _) (v := ?v304) (List.getElem?_toArray.trans rfl) (by kernel_rfl) (by kernel_rfl) (by kernel_rfl) (fun _ _ _ h => h) (Or.inl ⟨by rfl, ?hy304⟩) (by assumption) ?rest304
                case hy304 => (intro wq hSw; (try simp only [Two, OY] at hSw); go_simp; try with_reducible rfl)
                try simp only [Act.put, List.setIfInBounds_toArray, List.set_cons_zero, List.set_cons_succ]
                refine wpAnyH_take (i := 4) (oi := _) (v := ?v305) (List.getElem?_toArray.trans rfl) (by kernel_rfl) (by kernel_rfl) (by kernel_rfl) (fun _ _ _ h => h) (Or.inl ⟨by rfl, ?hy305⟩) (by assumption) ?rest305
                case hy305 => (intro wq hSw; (try simp only [Two, OY] at hSw); go_simp; try with_reducible rfl)
                try simp only [Act.put, List.setIfInBounds_toArray, List.set_cons_zero, List.set_cons_succ]
                refine wpAnyH_take (i := 5) (oi := _) (v := ?v306) (List.getElem?_toArray.trans rfl) (by kernel_rfl) (by kernel_rfl) (by kernel_rfl) (fun _ _ _ h => h) (Or.inl ⟨by rfl, ?hy306⟩) (by assumption) ?rest306
                case hy306 => (intro wq hSw; (try simp only [Two, OY] at hSw); go_simp; try with_reducible rfl)
                try simp only [Act.put, List.setIfInBounds_toArray, List.set_cons_zero, List.set_cons_succ]
                refine wpAnyH_take (i := 6) (oi := _) (v := ?v307) (List.getElem?_toArray.trans rfl) (by kernel_rfl) (by kernel_rfl) (by kernel_rfl) (fun _ _ _ h => h) (Or.inl ⟨by rfl, ?hy307⟩) (by assumption) ?rest307
                case hy307 => (intro wq hSw; (try simp only [Two, OY] at hSw); go_simp; try with_reducible rfl)
                try simp only [Act.put, List.setIfInBounds_toArray, List.set_cons_zero, List.set_cons_succ]
                refine wpAnyH_ready (rs := [7]) (by kernel_rfl) (by simp) ?rdy308
                refine AllReadyH.cons (List.getElem?_toArray.trans rfl) (fun K hK => ?stp308) AllReadyH.nil
                go_simp
                go_wp2_with fail
                (refine (FI.out _).mono ?_; rintro e w9 ⟨rfl, hb5⟩)
                go_wp2_with fail
                refine hK.out _ _ ?hSn308 (fun hHeld2 => ?rest308)
                case hSn308 => (first | with_reducible exact O1.drew | with_reducible exact hHeld.below hb4 | with_reducible exact hHeld.below hb5 | with_reducible exact hHeld.below hb6)
                clear hK K hHeld
                have hHeld := hHeld2
                clear hHeld2
                try simp only [Act.put, List.setIfInBounds_toArray, List.set_cons_zero, List.set_cons_succ]
                refine wpAnyH_take (i := 8) (oi := _) (v := (.bool false)) (List.getElem?_toArray.trans rfl) (by kernel_rfl) (by kernel_rfl) (by kernel_rfl) (fun _ _ _ h => h) (Or.inl ⟨by rfl, ?hy309⟩) (by assumption) ?rest309
                case hy309 => (intro wq hSw; (try simp only [Two, OY] at hSw); go_simp; (all_goals (exact fun c d => E1H.out ⟨c, d⟩)))
                try simp only [Act.put, List.setIfInBounds_toArray, List.set_cons_zero, List.set_cons_succ]
                refine wpAnyH_take (i := 9) (oi := _) (v := ?v310) (List.getElem?_toArray.trans rfl) (by kernel_rfl) (by kernel_rfl) (by kernel_rfl) (fun _ _ _ h => h) (Or.inl ⟨by rfl, ?hy310⟩) (by assumption) ?rest310
                case hy310 => (intro wq hSw; (try simp only [Two, OY] at hSw); go_simp; try with_reducible rfl)
                try simp only [Act.put, List.setIfInBounds_toArray, List.set_cons_zero, List.set_cons_succ]
                refine wpAnyH_take (i := 10) (oi := _) (v := ?v311) (List.getElem?_toArray.trans rfl) (by kernel_rfl) (by kernel_rfl) (by kernel_rfl) (fun _ _ _ h => h) (Or.inl ⟨by rfl, ?hy311⟩) (by assumption) ?rest311
                case hy311 => (intro wq hSw; (try simp only [Two, OY] at hSw); go_simp; try with_reducible rfl)
                try simp only [Act.put, List.setIfInBounds_toArray, List.set_cons_zero, List.set_cons_succ]
                refine wpAnyH_take (i := 11) (oi := _) (v := ?v312) (List.getElem?_toArray.trans rfl) (by kernel_rfl) (by kernel_rfl) (by kernel_rfl) (fun _ _ _ h => h) (Or.inl ⟨by rfl, ?hy312⟩) (by assumption) ?rest312
                case hy312 => (intro wq hSw; (try simp only [Two, OY] at hSw); go_simp; try with_reducible rfl)
                try simp only [Act.put, List.setIfInBounds_toArray, List.set_cons_zero, List.set_cons_succ]
                refine wpAnyH_take (i := 12) (oi := _) (v := ?v313) (List.getElem?_toArray.trans rfl) (by kernel_rfl) (by kernel_rfl) (by kernel_rfl) (fun _ _ _ h => h) (Or.inl ⟨by rfl, ?hy313⟩) (by assumption) ?rest313
                case hy313 => (intro wq hSw; (try simp only [Two, OY] at hSw); go_simp; try with_reducible rfl)
                try simp only [Act.put, List.setIfInBounds_toArray, List.set_cons_zero, List.set_cons_succ]
                refine wpAnyH_take (i := 13) (oi := _) (v := ?v314) (List.getElem?_toArray.trans rfl) (by kernel_rfl) (by kernel_rfl) (by kernel_rfl) (fun _ _ _ h => h) (Or.inl ⟨by rfl, ?hy314⟩) (by assumption) ?rest314
                case hy314 => (intro wq hSw; (try simp only [Two, OY] at hSw); go_simp; try with_reducible rfl)
                try simp only [Act.put, List.setIfInBounds_toArray, List.set_cons_zero, List.set_cons_succ]
                refine wpAnyH_take (i := 14) (oi := _) (v := ?v315) (List.getElem?_toArray.trans rfl) (by kernel_rfl) (by kernel_rfl) (by kernel_rfl) (fun _ _ _ h => h) (Or.inl ⟨by rfl, ?hy315⟩) (by assumption) ?rest315
                case hy315 => (intro wq hSw; (try simp only [Two, OY] at hSw); go_simp; try with_reducible rfl)
                try simp only [Act.put, List.setIfInBounds_toArray, List.set_cons_zero, List.set_cons_succ]
                refine wpAnyH_take (i := 15) (oi := _) (v := undef) (List.getElem?_toArray.trans rfl) (by kernel_rfl) (by kernel_rfl) (by kernel_rfl) (fun _ _ _ h => h) (Or.inr ⟨by rfl, rfl⟩) (by assumption) ?rest316
                try simp only [Act.put, List.setIfInBounds_toArray, List.set_cons_zero, List.set_cons_succ]
                refine wpAnyH_take (i := 16) (oi := _) (v := undef) (List.getElem?_toArray.trans rfl) (by kernel_rfl) (by kernel_rfl) (by kernel_rfl) (fun _ _ _ h => h) (Or.inr ⟨by rfl, rfl⟩) (by assumption) ?rest317
                try simp only [Act.put, List.setIfInBounds_toArray, List.set_cons_zero, List.set_cons_succ]
                refine wpAnyH_take (i := 17) (oi := _) (v := undef) (List.getElem?_toArray.trans rfl) (by kernel_rfl) (by kernel_rfl) (by kernel_rfl) (fun _ _ _ h => h) (Or.inr ⟨by rfl, rfl⟩) (by assumption) ?rest318
                try simp only [Act.put, List.setIfInBounds_toArray, List.set_cons_zero, List.set_cons_succ]
                refine wpAnyH_take (i := 18) (oi := _) (v := undef) (List.getElem?_toArray.trans rfl) (by kernel_rfl) (by kernel_rfl) (by kernel_rfl) (fun _ _ _ h => h) (Or.inr ⟨by rfl, rfl⟩) (by assumption) ?rest319
                try simp only [Act.put, List.setIfInBounds_toArray, List.set_cons_zero, List.set_cons_succ]
                refine wpAnyH_take (i := 19) (oi := _) (v := ?v320) (List.getElem?_toArray.trans rfl) (by kernel_rfl) (by kernel_rfl) (by kernel_rfl) (fun _ _ _ h => h) (Or.inl ⟨by rfl, ?hy320⟩) (by assumption) ?rest320
                case hy320 => (intro wq hSw; (try simp only [Two, OY] at hSw); go_simp; try with_reducible rfl)
                try simp only [Act.put, List.setIfInBounds_toArray, List.set_cons_zero, List.set_cons_succ]
                refine wpAnyH_take (i := 20) (oi := _) (v := ?v321) (List.getElem?_toArray.trans rfl) (by kernel_rfl) (by kernel_rfl) (by kernel_rfl) (fun _ _ _ h => h) (Or.inl ⟨by rfl, ?hy321⟩) (by assumption) ?rest321
                case hy321 => (intro wq hSw; (try simp only [Two, OY] at hSw); go_simp; try with_reducible rfl)
                try simp only [Act.put, List.setIfInBounds_toArray, List.set_cons_zero, List.set_cons_succ]
                refine wpAnyH_done (by kernel_rfl) ?fin300 _
                obtain ⟨y0, y1, y2, y3, y4, y5, y6⟩ := hHeld.1
                have S9 := hide hHeld.2.out.1
                have hs9 : w3.heap.size ≤ w9.heap.size := S9.out.bs
                have N4 := three_new w9 (.bool true) (.int .u64 ah) (.int .u64 al) 26
                have hone : ∀ u ∈ [Value.bool true, .int .u64 ah, .int .u64 al], u.oneCell' = true := by
                  intro u hu
                  simp at hu
                  rcases hu with rfl | rfl | rfl <;> rfl
                have gl6 : gs.length ≤ 512 := by omega
                clear hHeld O1 H1H E1H E2H FI LA
                go_wp2_with (first | (at_builtin; refine wpList_append_own _ rfl _ _ 55 rfl w3.heap.size 26 i0 (.agg #[.bool false, .int .u64 0, .int .u64 0]) 3 24 Tryz.underlying55 hinf hz0 hz1 hz2 rfl (by decide) _ _ _ rfl (S9.out.row.alloc _) ⟨w9.heap.size, 0, none⟩ 1 1 [.bool true, .int .u64 ah, .int .u64 al] rfl rfl N4 hone ?c3 ?c4 ?c5 ?_))
                case c3 => unfold maxLen; omega
                case c4 => omega
                case c5 => simp; omega
                intro v' w10 hown hgrow _
                rw [← HA.out, ← HB.out] at hown
                rw [show i + 1 = gs.length + 1 by omega] at hown
                have S10 := hide (S9.out.grown hown hgrow)
                clear S9 hown hgrow N4 hone y0 y1 y2 y3 y4 y5 y6
                go_wp2
                go_roundw
                case rel => exact ⟨i + 1, upd f p true, gs ++ [p], by omega, by go_num, by simp; omega, G1, S10⟩
                case measure => simp [intOf]; omega
        · have hiM' : ¬ (i : Int) < M := by omega
          have hgi : gs.length = M := by omega
          have hcnt : cnt f N = N := by
            have a1 := G.out.num
            have a2 := HM.out
            omega
          have hnx := next_none (s := z.toNat % N) (Nat.mod_lt _ N0) hcnt
          have N1 := hide (NF.out z z0 z1 f hnx x a g wc (TH.out _ S.out.k.bel) S.out.p)
          clear NX NF HS NE NU LF US hnx hcnt HM FI LA hgi
          go_wp2_with fail
          refine N1.out.mono ?_
          rintro e w4 ⟨rfl, hb⟩
          have S4 := S.out.below hb
          have bl : Below w4.heap.size w4 (w4.alloc (.cells #[.bool false, .int .u64 0, .int .u64 0] 26)) := by repeat (first | with_reducible exact Below.refl _ _ | with_reducible refine Below.drew ?_ | with_reducible refine Below.alloc ?_ (by first | omega | (simp <;> omega)) _ | with_reducible refine Below.setCell ?_ (by first | omega | (simp <;> omega)) _)
          have S5 := hide (S4.below bl)
          clear N1 hb S4 bl S
          go_wp2
          go_roundw
          case rel => exact ⟨i + 1, f, gs, by omega, by go_num, by omega, G, S5⟩
          case measure => simp [intOf]; omega
    · have hlt' : ¬ (i : Int) ≤ M := by omega
      have hgi : gs.length = M := by omega
      have a1 := G.out.num
      have a2 := HM.out
      have a3 := cnt_diff (f := f) (f0 := f0) N G.out.more
      have L1 := hide (LF.out f 0 (by omega) x a g wr S.out.p)
      have U1 := hide (fun w' P' => US.out f x a g w' P')
      have CM : Hid (cnt (fun p => f p && !f0 p) N = M) := by show _ = _; omega
      clear NX NF HS NE NU LF US HM FI LA a1 a2 a3 hgi
      go_wp2_with fail
      refine L1.out.mono ?_
      rintro e w4 ⟨rfl, hb⟩
      have S4 := hide (S.out.below hb)
      have U2 := hide (U1.out w4 S4.out.p)
      clear L1 hb S U1
      go_wp2_with fail
      refine U2.out.mono ?_
      rintro e w5 ⟨sv, rfl, ho, hb⟩
      obtain ⟨qa, cap0, hsv⟩ : ∃ qa cap0, sv = .slice qa M cap0 := by
        rw [CM.out] at ho
        rcases ho.2 with ⟨h1, h2⟩ | ⟨gB, cap, cur, h1, _⟩
        · exact ⟨none, 0, by rw [h1, h2]⟩
        · exact ⟨some ⟨gB, 0, none⟩, cap, h1⟩
      subst hsv
      have B5 := (S4.out.k.below hb).bel
      clear U2 hb ho S4
      go_wp2
      go_ret
      exact ⟨by first | rfl | simp, B5⟩
end Go.Proofs.YtighdocmncbdnaaGreatDoor
