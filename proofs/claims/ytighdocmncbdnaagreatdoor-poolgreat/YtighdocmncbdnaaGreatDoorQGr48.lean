/-
  Texts PoR3, PoG of the proof.
-/
import Derived.Test.YtighdocmncbdnaaGreatDoorQGr47
import Derived.Test.YtighdocmncbdnaaGreatDoorQGr46

namespace Go.Proofs.YtighdocmncbdnaaGreatDoor
open Go.ChangeShapes Go.WideShapes Go.ChangeAt Go.RowKit
set_option linter.unusedVariables false
set_option linter.unusedSimpArgs false

/-- What is not to be given: what is kept, and what is used. -/
def usF (lk : Bool) (N : Nat) (us : List Nat) : Nat → Bool := fun p => kpF lk N p || decide (p ∈ us)

theorem own_but {W W' : World} {base size k g : Nat} {e : TypeId} {sv : Value} {xs : List Value} (h : W.ownsRow base e size sv k xs) (hg : g < base) (kb : But [g] W.heap.size W W') : W'.ownsRow base e size sv k xs := by
  refine ⟨h.1, ?_⟩
  rcases h.2 with h1 | ⟨g', cap, cur, h1, h2, h3, h4⟩
  · exact Or.inl h1
  · exact Or.inr ⟨g', cap, cur, h1, h2, (kb.block g' (Array.getElem?_eq_some_iff.1 h3).1 (by simp; omega)).trans h3, h4⟩

theorem RpAt.but {W W' : World} {base : Nat} {v : Bool} {h l b : Int} {r N g : Nat} {us : List Nat} (P : RpAt W base v h l b r N us) (hr : base ≤ r) (hg : g < base) (kb : But [g] W.heap.size W W') : RpAt W' base v h l b r N us := by
  obtain ⟨sv, h1, h2⟩ := P.is
  exact ⟨sv, kb.blk h1 h1.lt (by simp; omega), own_but h2 hg kb⟩

/-- A row's block is not the block of a value of another type. -/
theorem own_ne {W : World} {base size k r : Nat} {e t : TypeId} {sv : Value} {xs : List Value} {cs : Array Value} (h : W.ownsRow base e size sv k xs) (hb : Blk W r cs t) (hne : e ≠ t) : sv.ownBlock ≠ some r := by
  intro c
  rcases h.2 with ⟨h1, _⟩ | ⟨g', cap, cur, h1, h2, h3, h4⟩
  · rw [h1] at c; cases c
  · rw [h1] at c
    simp [Value.ownBlock] at c
    subst c
    unfold Blk at hb
    rw [hb] at h3
    cases h3
    exact hne rfl

/-- Behind the store of the grown row. -/
theorem rp_store {W W' : World} {base : Nat} {v : Bool} {h l b : Int} {r N : Nat} {us : List Nat} {p : Nat} {sv sv' : Value} {o : Obj} (hb : Blk W r #[.bool v, .int .u64 h, .int .u64 l, .int .i64 b, .int .i64 N, sv] 59) (ho : W.ownsRow base 3 1 sv us.length (us.map fun i : Nat => Value.int .i64 (i : Int)))
    (hown : W'.ownsRow base 3 1 sv' (us.length + 1) ((us.map fun i : Nat => Value.int .i64 (i : Int)) ++ [.int .i64 (p : Int)])) (hg : (W.alloc o).grownBy W' sv.ownBlock) :
    RpAt (W'.setCell ⟨r, 5, none⟩ sv') base v h l b r N (us ++ [p]) := by
  have hb' : Blk W' r #[.bool v, .int .u64 h, .int .u64 l, .int .i64 b, .int .i64 N, sv] 59 := by
    have := hb.alloc o
    unfold Blk at this ⊢
    rw [hg.block r (by have := hb.lt; simp; omega) (fun c => own_ne ho hb (by decide) c.symm)]
    exact this
  have hne := own_ne hown hb' (by decide)
  refine ⟨sv', hb'.put 5 sv', ?_⟩
  rw [List.length_append, List.map_append]
  refine ⟨hown.1, ?_⟩
  rcases hown.2 with ⟨h1, h2⟩ | ⟨g', cap, cur, h1, h2, h3, h4⟩
  · omega
  · refine Or.inr ⟨g', cap, cur, h1, h2, ?_, h4⟩
    have n2 : g' ≠ r := fun c => hne (by rw [h1]; subst c; rfl)
    rw [Deep.blk_setCell_other _ ⟨r, 5, none⟩ _ g' (by simpa using n2)]
    exact h3

theorem rp_grown {W W' : World} {base r : Nat} {L : Nat} {t : TypeId} {cs : Array Value} {xs : List Value} {sv : Value} {o : Obj} (hb : Blk W r cs t) (ho : W.ownsRow base 3 1 sv L xs) (ht : 3 ≠ t) (hg : (W.alloc o).grownBy W' sv.ownBlock) : Blk W' r cs t := by
  have := hb.alloc o
  unfold Blk at this ⊢
  rw [hg.block r (by have := hb.lt; simp; omega) (fun c => own_ne ho hb ht c.symm)]
  exact this

theorem rp_far {W : World} {base : Nat} {v : Bool} {h l b : Int} {r N c : Nat} {us : List Nat} {cs : Array Value} (P : RpAt W base v h l b r N us) (R : Blk W c cs 26) (hc : c ≠ r) (i : Nat) (u : Value) : RpAt (W.setCell ⟨c, i, none⟩ u) base v h l b r N us := by
  obtain ⟨sv, h1, h2⟩ := P.is
  refine ⟨sv, h1.far (fun e => hc e.symm) i u, h2.1, ?_⟩
  rcases h2.2 with h3 | ⟨g', cap, cur, h3, h4, h5, h6⟩
  · exact Or.inl h3
  · refine Or.inr ⟨g', cap, cur, h3, h4, ?_, h6⟩
    have n2 : g' ≠ c := fun e => own_ne h2 R (by decide) (by rw [h3]; subst e; rfl)
    rw [Deep.blk_setCell_other _ ⟨c, i, none⟩ _ g' (by simpa using n2)]
    exact h5

theorem free_parts {lk : Bool} {N p : Nat} {us : List Nat} (h : usF lk N us p = false) : kpF lk N p = false ∧ decide (p ∈ us) = false := by
  unfold usF at h
  simpa using h

theorem busy_parts {lk : Bool} {N p : Nat} {us : List Nat} (h : usF lk N us p = true) : kpF lk N p = true ∨ (kpF lk N p = false ∧ decide (p ∈ us) = true) := by
  unfold usF at h
  cases e : kpF lk N p
  · rw [e] at h
    exact Or.inr ⟨rfl, by simpa using h⟩
  · exact Or.inl rfl

theorem round_step {s j N : Nat} (h0 : 0 < N) : (s + (j + 1)) % N = if (s + j) % N + 1 = N then 0 else (s + j) % N + 1 := by
  have d := Nat.div_add_mod (s + j) N
  have m := Nat.mod_lt (s + j) h0
  rw [show s + (j + 1) = ((s + j) % N + 1) + N * ((s + j) / N) by omega, Nat.add_mul_mod_self_left]
  split
  · rename_i c; rw [c]; exact Nat.mod_self _
  · rename_i c; exact Nat.mod_eq_of_lt (by omega)

set_option maxRecDepth 100000 in
set_option maxHeartbeats 6400000 in
theorem rnext06_ok {v : Bool} {h l b rh rl : Int} {base r n p s k : Nat} {us : List Nat} {o : Int} (hp : IsNum h l n) (h0 : 0 < szP v n b) (o1 : o ≤ 9223372036854775807) (o0 : -9223372036854775808 ≤ o) (hs : s = o.toNat % szP v n b) (hk : k < szP v n b) (hpk : p = (s + k) % szP v n b)
    (hbusy : ∀ j, j < k → usF (lkP v b) (szP v n b) us ((s + j) % szP v n b) = true) (hfree : usF (lkP v b) (szP v n b) us p = false) (hr : IsNum rh rl (n + p)) (hus : us.length ≤ 60) (w : World) (hbase : base ≤ w.heap.size) (hrb : base ≤ r) (P : RpAt w base v h l b r (szP v n b) us) :
    Calls Tryz.prog 37 #[.pointer (some ⟨r, 0, none⟩), .int .i64 o] w fun e w' => e = .returned (.tuple #[av v rh rl, .int .i64 0]) ∧ RpAt w' base v h l b r (szP v n b) (us ++ [p]) ∧ Below base w w' ∧ (∀ c cs t, Blk w c cs t → 3 ≠ t → c ≠ r → Blk w' c cs t) := by
  have ok := szP_ok h0
  have le := szP_le (v := v) (n := n) (b := b)
  have hpN : p < szP v n b := by rw [hpk]; exact Nat.mod_lt _ h0
  have hsN : s < szP v n b := by rw [hs]; exact Nat.mod_lt _ h0
  have KE := hide (fun (I : Int) (i : Nat) (hI : I = (i : Int)) (hi : i ≤ 65536) (t : Bool) (ht : kpF (lkP v b) (szP v n b) i = t) w' (P' : RpAt w' base v h l b r (szP v n b) us) => rkept06_c hI hi h0 le hp ok ht w' P')
  have HS := hide (fun (I : Int) (i : Nat) (hI : I = (i : Int)) (t : Bool) (ht : decide (i ∈ us) = t) w' (P' : RpAt w' base v h l b r (szP v n b) us) => (show Calls Tryz.prog 27 #[.pointer (some ⟨r, 0, none⟩), .int .i64 I] w' _ from hI ▸ rhas06_c ht (by omega) w' P'))
  have AD := hide (fun (I : Int) (hI : I = (p : Int)) w' (P' : RpAt w' base v h l b r (szP v n b) (us ++ [p])) => (show Calls Tryz.prog 67 #[.pointer (some ⟨r, 0, none⟩), .int .i64 I] w' _ from hI ▸ raddr06_c hp ok hpN hr w' P'))
  obtain ⟨N, hN⟩ : ∃ N, szP v n b = N := ⟨_, rfl⟩
  rw [hN] at KE HS AD h0 hs hk hpk hbusy hfree le hpN hsN P ⊢
  have HBZ := hide hbusy
  have HFR := hide hfree
  have HPK := hide hpk
  obtain ⟨i0, hi, hz0, hz1, hz2⟩ := info_parts infoInt
  have bl : Below w.heap.size w (w.alloc (.cells #[.bool false, .int .u64 0, .int .u64 0] 26)) := by repeat (first | with_reducible exact Below.refl _ _ | with_reducible refine Below.drew ?_ | with_reducible refine Below.alloc ?_ (by first | omega | (simp <;> omega)) _ | with_reducible refine Below.setCell ?_ (by first | omega | (simp <;> omega)) _)
  have PH := hide (P.below bl)
  have RH := hide (Blk.new w #[.bool false, .int .u64 0, .int .u64 0] 26)
  have BH := hide bl
  obtain ⟨sv0, hb0, ho0⟩ := P.is
  obtain ⟨r0, r1, r2, r3, r4, r5, rl0⟩ := hb0.six
  have hz : ((N : Int) == 0) = false := by simp; omega
  have em : (o < 0 ∧ s = 0) ∨ (0 ≤ o ∧ o % (N : Int) = (s : Int)) := by
    by_cases h : o < 0
    · left
      refine ⟨h, ?_⟩
      rw [hs, show o.toNat = 0 by omega, Nat.zero_mod]
    · right
      refine ⟨by omega, ?_⟩
      rw [hs]
      obtain ⟨m, rfl⟩ := Int.eq_ofNat_of_zero_le (show 0 ≤ o by omega)
      simp
  have ST : Hid (∀ q : Int, q = (s : Int) → q = (((s + 0) % N : Nat) : Int) ∧ 0 ≤ q ∧ q < N) := fun q e => by
    rw [Nat.add_zero, Nat.mod_eq_of_lt hsN]
    omega
  have hrne : Hid (w.heap.size ≠ r) := by show _ ≠ _; omega
  clear bl P hb0 ho0 hbusy hfree hpk hs hp ok hr hN hpN hsN
  rcases em with ⟨hi1, em⟩ | ⟨hi1, em⟩
  all_goals
    have EM := hide em
    first
      | (clear em; have em0 : Hid (s = 0) := EM; clear EM)
      | skip
    go_enter Tryz.func37, Tryz.ntmps37
    go_wp2_with fail
    go_loopw [6, 7] (fun iv kv wr => ∃ (j : Nat) (q : Int), j ≤ k ∧ kv = .int .i64 j ∧ iv = .int .i64 q ∧ 0 ≤ q ∧ q < N ∧ Hid (q = (((s + j) % N : Nat) : Int)) ∧ Hid (RpAt wr base v h l b r N us) ∧ Hid (Blk wr w.heap.size #[.bool false, .int .u64 0, .int .u64 0] 26) ∧ Hid (Below w.heap.size w wr)) (fun _ kv _ => k + 1 - (intOf kv).toNat)
    case atStart =>
      first
        | exact ⟨0, 0, by omega, rfl, rfl, by omega, by omega, (ST.out _ (by rw [em0.out]; rfl)).1, PH, RH, BH⟩
        | exact ⟨0, _, by omega, rfl, rfl, (ST.out _ em).2.1, (ST.out _ em).2.2, (ST.out _ em).1, PH, RH, BH⟩
        | (simp only [em]; exact ⟨0, _, by omega, rfl, rfl, (ST.out _ rfl).2.1, (ST.out _ rfl).2.2, (ST.out _ rfl).1, PH, RH, BH⟩)
    case round =>
      clear PH RH BH ST r0 r1 r2 r3 r4 r5
      try clear em
      obtain ⟨j, q, hj, rfl, rfl, q0, q1, hq, P, R, B⟩ := hrel
      obtain ⟨sv, hb, ho⟩ := P.out.is
      obtain ⟨r0, r1, r2, r3, r4, r5, rlt⟩ := hb.six
      have hqo := hq.out
      have i6 : (s + j) % N ≤ 65536 := by have := Nat.mod_lt (s + j) h0; omega
      have jN : (j : Int) < N := by omega
      clear hb ho
      by_cases hlt : j < k
      · have HB := HBZ.out j hlt
        have NX : Hid (∀ q' : Int, (q + 1 = N → q' = 0) → (¬ q + 1 = N → q' = q + 1) → q' = (((s + (j + 1)) % N : Nat) : Int)) := fun q' h1 h2 => by
          rw [round_step h0]
          split
          · rename_i c; rw [h1 (by omega)]; rfl
          · rename_i c; rw [h2 (by omega)]; omega
        have QR : Hid (q + 1 = N ∨ ¬ q + 1 = N) := Classical.em _
        rcases busy_parts HB with e1 | ⟨e1, e2⟩
        · have K1 := hide (KE.out q _ hqo i6 true e1 wr P.out)
          clear HB hqo e1
          go_wp2_with fail
          refine K1.out.mono ?_
          rintro e w1 ⟨rfl, hb1⟩
          have P1 := hide (P.out.below hb1)
          have R1 := hide (R.out.below hb1)
          have B1 := hide (B.out.trans (hb1.mono B.out.size))
          obtain ⟨sv1, hb1', _⟩ := P1.out.is
          obtain ⟨y0, y1, y2, y3, y4, y5, yl⟩ := hb1'.six
          clear K1 hb1 hb1' P R B r0 r1 r2 r3 r4 r5 y0 y1 y2 y3 y5
          rcases QR.out with hw | hw
          all_goals
            have NQ := hide (NX.out)
            clear NX QR
            go_wp2
            go_roundw
            case rel =>
              first
                | exact ⟨j + 1, 0, by omega, by go_num, rfl, by omega, by omega, NQ.out 0 (fun _ => rfl) (fun c => absurd hw c), P1, R1, B1⟩
                | exact ⟨j + 1, q + 1, by omega, by go_num, by go_num, by omega, by omega, NQ.out (q + 1) (fun c => absurd c hw) (fun _ => rfl), P1, R1, B1⟩
            case measure => simp [intOf]; omega
        · have K1 := hide (KE.out q _ hqo i6 false e1 wr P.out)
          have H1 := hide (fun w' P' => HS.out q _ hqo true e2 w' P')
          clear HB hqo e1 e2
          go_wp2_with fail
          refine K1.out.mono ?_
          rintro e w1 ⟨rfl, hb1⟩
          have P1 := hide (P.out.below hb1)
          have R1 := hide (R.out.below hb1)
          have B1 := hide (B.out.trans (hb1.mono B.out.size))
          obtain ⟨sv1, hb1', _⟩ := P1.out.is
          obtain ⟨y0, y1, y2, y3, y4, y5, yl⟩ := hb1'.six
          clear K1 hb1 hb1' P R B r0 r1 r2 r3 r4 r5 y0 y1 y2 y3 y5
          go_wp2_with fail
          refine (H1.out w1 P1.out).mono ?_
          rintro e w2 ⟨rfl, rfl⟩
          clear H1
          rcases QR.out with hw | hw
          all_goals
            have NQ := hide (NX.out)
            clear NX QR
            go_wp2
            go_roundw
            case rel =>
              first
                | exact ⟨j + 1, 0, by omega, by go_num, rfl, by omega, by omega, NQ.out 0 (fun _ => rfl) (fun c => absurd hw c), P1, R1, B1⟩
                | exact ⟨j + 1, q + 1, by omega, by go_num, by go_num, by omega, by omega, NQ.out (q + 1) (fun c => absurd c hw) (fun _ => rfl), P1, R1, B1⟩
            case measure => simp [intOf]; omega
      · obtain rfl : j = k := by omega
        rw [← HPK.out] at hqo i6
        obtain ⟨e1, e2⟩ := free_parts HFR.out
        have K1 := hide (KE.out q _ hqo i6 false e1 wr P.out)
        have H1 := hide (fun w' P' => HS.out q _ hqo false e2 w' P')
        have A1 := hide (fun w' P' => AD.out q hqo w' P')
        have HQ := hide hqo
        clear hqo e1 e2 KE HS AD HBZ HFR HPK hq i6
        go_wp2_with fail
        refine K1.out.mono ?_
        rintro e w1 ⟨rfl, hb1⟩
        have P1 := hide (P.out.below hb1)
        have R1 := hide (R.out.below hb1)
        have B1 := hide (B.out.trans (hb1.mono B.out.size))
        clear K1 hb1 P R B r0 r1 r2 r3 r4 r5
        go_wp2_with fail
        refine (H1.out w1 P1.out).mono ?_
        rintro e w2 ⟨rfl, rfl⟩
        obtain ⟨sv1, hb1, ho1⟩ := P1.out.is
        obtain ⟨y0, y1, y2, y3, y4, y5, yl⟩ := hb1.six
        have HB1 := hide hb1
        have HO1 := hide ho1
        have hbs : base ≤ w2.heap.size := Nat.le_trans hbase B1.out.size
        clear H1 hb1 ho1
        go_wp2_with (first | (at_builtin; refine wpList_append_own _ rfl _ _ 57 rfl base 3 i0 (.int .i64 0) 1 8 Tryz.underlying57 hi hz0 hz1 hz2 rfl (by decide) _ _ _ rfl (HO1.out.alloc _) ⟨w2.heap.size, 0, none⟩ 1 1 [.int .i64 q] rfl rfl ?c1 ?c2 ?c3 ?c4 ?c5 ?_))
        case c1 =>
          intro j u hj
          match j, hj with
          | 0, hj => simp at hj; subst hj; simp [Addr.add]
        case c2 => intro u hu; simp at hu; subst hu; rfl
        case c3 => unfold maxLen; omega
        case c4 => omega
        case c5 => simp; omega
        intro v' w5 hown hgrow _
        obtain ⟨g', cap', hv'⟩ : ∃ g' cap', v' = .slice (some ⟨g', 0, none⟩) (us.length + 1) cap' := by
          rcases hown.2 with ⟨_, h2⟩ | ⟨g', cap', cur, h1, _⟩
          · omega
          · exact ⟨g', cap', h1⟩
        subst hv'
        have hb5 := rp_grown HB1.out HO1.out (by decide) hgrow
        have R5 := rp_grown R1.out HO1.out (by decide) hgrow
        have B5 : Below base w w5 := below_grown (B1.out.mono hbase) hbs HO1.out hgrow
        rw [HQ.out] at hown
        have RP6 := hide (rp_store HB1.out HO1.out hown hgrow)
        have R6 := hide (R5.far hrne.out 5 (.slice (some ⟨g', 0, none⟩) (us.length + 1) cap'))
        have B6 := hide (B5.setCell (p := ⟨r, 5, none⟩) hrb (.slice (some ⟨g', 0, none⟩) (us.length + 1) cap'))
        have KP6 : Hid (∀ c cs t, Blk w c cs t → 3 ≠ t → c ≠ r → Blk (w5.setCell ⟨r, 5, none⟩ (.slice (some ⟨g', 0, none⟩) (us.length + 1) cap')) c cs t) := fun c cs t hc ht hcr => (rp_grown (hc.below B1.out) HO1.out ht hgrow).far hcr 5 _
        have f5 := hb5.frozen 5
        obtain ⟨z0, z1, z2, z3, z4, z5, zl⟩ := hb5.six
        have A6 := hide (A1.out _ RP6.out)
        clear hown hgrow hb5 R5 B5 A1 y0 y1 y2 y3 y4 y5 HB1 HO1 P1 R1 B1
        go_wp2_with fail
        refine A6.out.mono ?_
        rintro e w7 ⟨rfl, hb7⟩
        have R7 := R6.out.below hb7
        obtain ⟨x0, x1, x2, x3, x4, x5, xl⟩ := R7.three
        have P7 := hide (RP6.out.below hb7)
        have B7 := hide (B6.out.trans (hb7.mono (Nat.le_trans hbase B6.out.size)))
        have RR := hide R7
        have KP7 : Hid (∀ c cs t, Blk w c cs t → 3 ≠ t → c ≠ r → Blk w7 c cs t) := fun c cs t hc ht hcr => (KP6.out c cs t hc ht hcr).below hb7
        clear A6 hb7 R6 RP6 B6 R7 KP6 z0 z1 z2 z3 z4 z5 f5
        go_wp2
        have E : ∀ a1 a2 a3 : Value, RpAt (((w7.setCell ⟨w.heap.size, 0, none⟩ a1).setCell ⟨w.heap.size, 1, none⟩ a2).setCell ⟨w.heap.size, 2, none⟩ a3) base v h l b r N (us ++ [p]) ∧ Below base w (((w7.setCell ⟨w.heap.size, 0, none⟩ a1).setCell ⟨w.heap.size, 1, none⟩ a2).setCell ⟨w.heap.size, 2, none⟩ a3) ∧ (∀ c cs t, Blk w c cs t → 3 ≠ t → c ≠ r → Blk (((w7.setCell ⟨w.heap.size, 0, none⟩ a1).setCell ⟨w.heap.size, 1, none⟩ a2).setCell ⟨w.heap.size, 2, none⟩ a3) c cs t) := fun a1 a2 a3 =>
          ⟨rp_far (rp_far (rp_far P7.out RR.out hrne.out 0 a1) (RR.out.put 0 a1) hrne.out 1 a2) ((RR.out.put 0 a1).put 1 a2) hrne.out 2 a3, ((B7.out.setCell hbase a1).setCell hbase a2).setCell hbase a3, fun c cs t hc ht hcr => (((KP7.out c cs t hc ht hcr).far (by have := hc.lt; omega) 0 a1).far (by have := hc.lt; omega) 1 a2).far (by have := hc.lt; omega) 2 a3⟩
        refine bodyPost_ret (v := .tuple #[av v rh rl, .int .i64 0]) (by simp [results, Tryz.results37, go_sem, World.cell?_setCell_same', World.cell?_setCell_other, *]) rfl ⟨rfl, E _ _ _⟩
end Go.Proofs.YtighdocmncbdnaaGreatDoor

namespace Go.Proofs.YtighdocmncbdnaaGreatDoor
open Go.ChangeShapes Go.WideShapes Go.ChangeAt Go.RowKit
set_option linter.unusedVariables false
set_option linter.unusedSimpArgs false

theorem cnt_put6 {f : Nat → Bool} {n p : Nat} (hp : p < n) (hf : f p = false) : cnt (upd f p true) n = cnt f n + 1 := by
  have e : n = p + (1 + (n - p - 1)) := by omega
  rw [e, cnt_add, cnt_add, cnt_add f, cnt_add]
  have e1 : cnt (upd f p true) p = cnt f p := cnt_congr (fun k hk => by unfold upd; rw [if_neg (by omega)])
  have e2 : cnt (fun j => upd f p true (p + j)) 1 = 1 := by simp [cnt, upd]
  have e3 : cnt (fun j => f (p + j)) 1 = 0 := by simp [cnt, hf]
  have e4 : cnt (fun j => upd f p true (p + (1 + j))) (n - p - 1) = cnt (fun j => f (p + (1 + j))) (n - p - 1) := cnt_congr (fun k hk => by unfold upd; rw [if_neg (by omega)])
  rw [e1, e2, e3, e4]
  omega

theorem upd_upd {f : Nat → Bool} {p : Nat} {u v : Bool} : upd (upd f p u) p v = upd f p v := by
  funext q
  unfold upd
  split <;> rfl

theorem upd_at {f : Nat → Bool} {p : Nat} {u : Bool} : upd f p u p = u := by
  unfold upd
  rw [if_pos rfl]

theorem upd_id {f : Nat → Bool} {p : Nat} (h : f p = false) : upd f p false = f := by
  funext q
  unfold upd
  split
  · rename_i c; rw [c, h]
  · rfl

/-- The first of the numbers at which something holds. -/
theorem least_at {P : Nat → Bool} : ∀ K, P K = true → ∃ k, k ≤ K ∧ P k = true ∧ ∀ j, j < k → P j = false
  | 0, h => ⟨0, Nat.le_refl _, h, fun j hj => absurd hj (by omega)⟩
  | K + 1, h => by
    by_cases c : ∃ j, j ≤ K ∧ P j = true
    · obtain ⟨j, hj, hP⟩ := c
      -- the least among those up to K
      have : ∀ m, m ≤ K → (∃ j, j ≤ m ∧ P j = true) → ∃ k, k ≤ m ∧ P k = true ∧ ∀ j, j < k → P j = false := by
        intro m
        induction m with
        | zero =>
          rintro _ ⟨j, h1, h2⟩
          obtain rfl : j = 0 := by omega
          exact ⟨0, Nat.le_refl _, h2, fun j hj => absurd hj (by omega)⟩
        | succ m ih =>
          rintro hm ⟨j, h1, h2⟩
          by_cases d : ∃ j, j ≤ m ∧ P j = true
          · obtain ⟨k, k1, k2, k3⟩ := ih (by omega) d
            exact ⟨k, by omega, k2, k3⟩
          · have e : j = m + 1 := by
              apply Classical.byContradiction
              intro e
              exact d ⟨j, by omega, h2⟩
            refine ⟨m + 1, Nat.le_refl _, e ▸ h2, fun q hq => ?_⟩
            cases hq2 : P q
            · rfl
            · exact absurd ⟨q, by omega, hq2⟩ d
      obtain ⟨k, k1, k2, k3⟩ := this K (Nat.le_refl _) ⟨j, hj, hP⟩
      exact ⟨k, by omega, k2, k3⟩
    · refine ⟨K + 1, Nat.le_refl _, h, fun j hj => ?_⟩
      cases e : P j
      · rfl
      · exact absurd ⟨j, by omega, e⟩ c

/-- Where a bit is not one, Next tells one, and how far it is. -/
theorem next_round {f : Nat → Bool} {N s i : Nat} (hs : s < N) (hi : i < N) (hf : f i = false) : ∃ k p, k < N ∧ p = (s + k) % N ∧ p < N ∧ f p = false ∧ nextF f N s = some p ∧ ∀ j, j < k → f ((s + j) % N) = true := by
  obtain ⟨K, hK, hKi⟩ : ∃ K, K < N ∧ (s + K) % N = i := by
    by_cases c : s ≤ i
    · exact ⟨i - s, by omega, by rw [show s + (i - s) = i by omega]; exact Nat.mod_eq_of_lt hi⟩
    · refine ⟨N - s + i, by omega, ?_⟩
      rw [show s + (N - s + i) = i + N by omega, Nat.add_mod_right]
      exact Nat.mod_eq_of_lt hi
  obtain ⟨k, k1, k2, k3⟩ := least_at (P := fun k => !f ((s + k) % N)) K (by rw [hKi, hf]; rfl)
  have k2' : f ((s + k) % N) = false := by simpa using k2
  refine ⟨k, (s + k) % N, by omega, rfl, Nat.mod_lt _ (by omega), k2', nextF_round hs (by omega) rfl (fun j hj => by simpa using k3 j hj) k2', fun j hj => by simpa using k3 j hj⟩

theorem first_kept {v : Bool} {n : Nat} {b : Int} : nmP v n b v n = none := by
  unfold nmP
  rw [if_neg]
  rintro ⟨_, _, h⟩
  simp [kpF] at h

theorem last_kept {n : Nat} {b : Int} (ok : okP false n b = true) (h0 : 0 < szP false n b) : nmP false n b false (lastN false n b) = none := by
  unfold nmP
  rw [if_neg]
  rintro ⟨_, h2, h3⟩
  unfold lastN at h2 h3
  rw [show n + (2 ^ behindP false b - 1) - n = 2 ^ behindP false b - 1 by omega] at h2 h3
  have p := Nat.pos_of_ne_zero (Nat.ne_of_gt (Nat.pow_pos (n := behindP false b) (show 0 < 2 by decide)))
  by_cases c : behindP false b ≤ 16
  · have e : szP false n b = 2 ^ behindP false b := by unfold szP; rw [if_pos ok, if_pos c]
    rw [e] at h3
    have : lkP false b = true := by unfold lkP; simp [c]
    rw [this] at h3
    simp [kpF] at h3
  · have e : szP false n b = 65536 := by unfold szP; rw [if_pos ok, if_neg c]
    have q := Nat.pow_le_pow_right (n := 2) (by decide) (show 17 ≤ behindP false b by omega)
    rw [show (2 : Nat) ^ 17 = 131072 by decide] at q
    omega

/-- A pool and the reference's beside the law's own blocks. -/
structure GSt (w : World) (L : List (Nat × List Value × TypeId)) (v : Bool) (h l b : Int) (x a g r base N : Nat) (f : Nat → Bool) (us : List Nat) (W : World) : Prop where
  k : Kn w L W
  p : PoAt W v h l b x a g N f
  rr : RpAt W base v h l b r N us
  og : Off g L
  hg : w.heap.size ≤ g
  gb : g < base ∧ x < base ∧ a < base ∧ w.heap.size ≤ base
  rb : base ≤ r

theorem GSt.below {w W W' : World} {L : List (Nat × List Value × TypeId)} {v : Bool} {h l b : Int} {x a g r base N : Nat} {f : Nat → Bool} {us : List Nat} (S : GSt w L v h l b x a g r base N f us W) (k : Below W.heap.size W W') : GSt w L v h l b x a g r base N f us W' :=
  ⟨S.k.below k, S.p.below k, S.rr.below k, S.og, S.hg, S.gb, S.rb⟩

theorem Blks.but {W W' : World} {g : Nat} (k : But [g] W.heap.size W W') : ∀ {L : List (Nat × List Value × TypeId)}, Off g L → Blks W L → Blks W' L
  | [], _, _ => trivial
  | e :: r, o, h => ⟨k.blk h.1 h.1.lt (by simpa using o.1), Blks.but k o.2 h.2⟩

theorem GSt.turn {w W W' : World} {L : List (Nat × List Value × TypeId)} {v : Bool} {h l b : Int} {x a g r base N : Nat} {f f' : Nat → Bool} {us : List Nat} (S : GSt w L v h l b x a g r base N f us W) (P' : PoAt W' v h l b x a g N f') (k : But [g] W.heap.size W W') : GSt w L v h l b x a g r base N f' us W' :=
  ⟨Kn.of (Blks.but k S.og S.k.2.1) (k.to S.k.bel S.hg S.k.bel.size), P', S.rr.but S.rb S.gb.1 k, S.og, S.hg, S.gb, S.rb⟩

theorem GSt.push {w W : World} {L : List (Nat × List Value × TypeId)} {v : Bool} {h l b : Int} {x a g r base N : Nat} {f : Nat → Bool} {us : List Nat} (S : GSt w L v h l b x a g r base N f us W) (cs : List Value) (t : TypeId) : GSt w ((W.heap.size, cs, t) :: L) v h l b x a g r base N f us (W.alloc (.cells cs.toArray t)) :=
  have bl : Below W.heap.size W (W.alloc (.cells cs.toArray t)) := by repeat (first | with_reducible exact Below.refl _ _ | with_reducible refine Below.drew ?_ | with_reducible refine Below.alloc ?_ (by first | omega | (simp <;> omega)) _ | with_reducible refine Below.setCell ?_ (by first | omega | (simp <;> omega)) _)
  ⟨S.k.push rfl, S.p.below bl, S.rr.below bl, ⟨by show W.heap.size ≠ g; have := S.p.m.lt; omega, S.og⟩, S.hg, S.gb, S.rb⟩

set_option maxRecDepth 100000 in
set_option maxHeartbeats 1600000 in
theorem pgreat_small {v : Bool} {h l b o : Int} {n : Nat} (hp : IsNum h l n) (h4 : ¬ 4 ≤ szP v n b) (w : World) (hL : LW w) (hT : TB w) :
    Calls Tryz.prog 5 #[pv v h l b, .int .i64 o] w fun e w' => e = .returned (.bool true) ∧ Below w.heap.size w w' := by
  have hz := hL.sz
  have K := pfx_start w v h l b
  have AW := hide (awake6_c _ (hL.of K.bel hz) (hT.below K.bel))
  have NW := hide (fun w' => poNew_no (v := v) (b := b) hp h4 w')
  have RN := hide (fun w' => rNew06_c (v := v) (b := b) hp w')
  have e0 : cnP v n b = 0 := by unfold cnP; rw [if_neg h4]
  have HE := hide e0
  have KH := hide K
  clear hL hT hz hp h4 K e0
  go_enter Tryz.func5, Tryz.ntmps5
  go_wp2_with fail
  refine AW.out.mono ?_
  rintro e w0 ⟨rfl, hb⟩
  have K0 := hide (KH.out.below hb)
  have F := K0.out.1
  simp only [Facts, CellsAt] at F
  clear AW hb KH
  go_wp2_with fail
  refine (NW.out _).mono ?_
  rintro e w1 ⟨rfl, hb⟩
  have K1 := hide (K0.out.below hb)
  have F1 := K1.out.1
  simp only [Facts, CellsAt] at F1
  clear NW hb K0 F
  go_wp2_with fail
  refine (RN.out _).mono ?_
  rintro e w2 (⟨_, rfl, hb⟩ | ⟨hn, _⟩)
  · have B2 := (K1.out.below hb).bel
    clear RN hb K1 F1
    go_wp2
    go_ret
    exact ⟨by first | rfl | simp, B2⟩
  · exact absurd HE.out hn
end Go.Proofs.YtighdocmncbdnaaGreatDoor
