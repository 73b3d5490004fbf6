/-
  Texts PoG2 of the proof.
-/
import Derived.Test.YtighdocmncbdnaaGreatDoorQGr48

namespace Go.Proofs.YtighdocmncbdnaaGreatDoor
open Go.ChangeShapes Go.WideShapes Go.ChangeAt Go.RowKit
set_option linter.unusedVariables false
set_option linter.unusedSimpArgs false

theorem take_g {w W : World} {L : List (Nat × List Value × TypeId)} {v s : Bool} {h l b ah al : Int} {x a g r base n m : Nat} {f f' : Nat → Bool} {us : List Nat} {V : Int} (hp : IsNum h l n) (ha : IsNum ah al m) (h0 : 0 < szP v n b) (hV : tkV f (nmP v n b s m) = V) (hF : tkF f (nmP v n b s m) = f') (S : GSt w L v h l b x a g r base (szP v n b) f us W) :
    Calls Tryz.prog 33 #[.pointer (some ⟨x, 0, none⟩), av s ah al] W fun e W' => e = .returned (.int .i64 V) ∧ GSt w L v h l b x a g r base (szP v n b) f' us W' := by
  subst hV hF
  refine (poTake_c hp ha h0 W S.p).mono ?_
  rintro e W' ⟨rfl, hP, hK⟩
  exact ⟨rfl, S.turn hP hK⟩

theorem free_g {w W : World} {L : List (Nat × List Value × TypeId)} {v s : Bool} {h l b ah al : Int} {x a g r base n m : Nat} {f f' : Nat → Bool} {us : List Nat} {V : Int} (hp : IsNum h l n) (ha : IsNum ah al m) (h0 : 0 < szP v n b) (hV : frV f (nmP v n b s m) = V) (hF : frF f (nmP v n b s m) = f') (S : GSt w L v h l b x a g r base (szP v n b) f us W) :
    Calls Tryz.prog 38 #[.pointer (some ⟨x, 0, none⟩), av s ah al] W fun e W' => e = .returned (.int .i64 V) ∧ GSt w L v h l b x a g r base (szP v n b) f' us W' := by
  subst hV hF
  refine (poFree_c hp ha h0 W S.p).mono ?_
  rintro e W' ⟨rfl, hP, hK⟩
  exact ⟨rfl, S.turn hP hK⟩

theorem left_g {w W : World} {L : List (Nat × List Value × TypeId)} {v : Bool} {h l b : Int} {x a g r base N : Nat} {f : Nat → Bool} {us : List Nat} {C : Int} (hC : (N : Int) - (cnt f N : Nat) = C) (S : GSt w L v h l b x a g r base N f us W) :
    Calls Tryz.prog 20 #[.pointer (some ⟨x, 0, none⟩)] W fun e W' => e = .returned (.int .i64 C) ∧ GSt w L v h l b x a g r base N f us W' := by
  refine (poLeft_c hC W S.p).mono ?_
  rintro e W' ⟨rfl, hb⟩
  exact ⟨rfl, S.below hb⟩

theorem has_g {w W : World} {L : List (Nat × List Value × TypeId)} {v s : Bool} {h l b ah al : Int} {x a g r base n m : Nat} {f : Nat → Bool} {us : List Nat} {V : Bool} (hp : IsNum h l n) (ha : IsNum ah al m) (h0 : 0 < szP v n b) (hV : hsV f (nmP v n b s m) = V) (S : GSt w L v h l b x a g r base (szP v n b) f us W) :
    Calls Tryz.prog 26 #[.pointer (some ⟨x, 0, none⟩), av s ah al] W fun e W' => e = .returned (.bool V) ∧ GSt w L v h l b x a g r base (szP v n b) f us W' := by
  subst hV
  refine (poHas_c hp ha h0 W S.p).mono ?_
  rintro e W' ⟨rfl, hb⟩
  exact ⟨rfl, S.below hb⟩

theorem next_g {w W : World} {L : List (Nat × List Value × TypeId)} {v : Bool} {h l b i rh rl : Int} {x a g r base n p : Nat} {f : Nat → Bool} {us : List Nat} (hp : IsNum h l n) (h0 : 0 < szP v n b) (i0 : -9223372036854775808 ≤ i) (i1 : i ≤ 9223372036854775807) (hf : nextF f (szP v n b) (i.toNat % szP v n b) = some p) (hr : IsNum rh rl (n + p)) (hT : TB w) (S : GSt w L v h l b x a g r base (szP v n b) f us W) :
    Calls Tryz.prog 36 #[.pointer (some ⟨x, 0, none⟩), .int .i64 i] W fun e W' => e = .returned (.tuple #[av v rh rl, .int .i64 0]) ∧ GSt w L v h l b x a g r base (szP v n b) (upd f p true) us W' := by
  refine (poNext_ok hp h0 i0 i1 hf hr W (hT.below S.k.bel) S.p).mono ?_
  rintro e W' ⟨rfl, hP, hK⟩
  exact ⟨rfl, S.turn hP hK⟩

/-- What the law says of the numbers. -/
theorem great_nums {v : Bool} {n : Nat} {b o : Int} (h4 : 4 ≤ szP v n b) : ∃ k p : Nat, k < szP v n b ∧ p = (o.toNat % szP v n b + k) % szP v n b ∧ p < szP v n b ∧ kpF (lkP v b) (szP v n b) p = false ∧ nextF (kpF (lkP v b) (szP v n b)) (szP v n b) (o.toNat % szP v n b) = some p ∧ ∀ j, j < k → kpF (lkP v b) (szP v n b) ((o.toNat % szP v n b + j) % szP v n b) = true :=
  next_round (i := 1) (Nat.mod_lt _ (by omega)) (by omega) (by
    unfold kpF
    rw [decide_eq_false (by omega), decide_eq_false (by omega)]
    simp)

set_option maxRecDepth 100000 in
set_option maxHeartbeats 6400000 in
theorem pgreat_v6 {h l b o : Int} {n : Nat} (hp : IsNum h l n) (h4 : 4 ≤ szP true n b) (o0 : -9223372036854775808 ≤ o) (o1 : o ≤ 9223372036854775807) (w : World) (hL : LW w) (hT : TB w) :
    Calls Tryz.prog 5 #[pv true h l b, .int .i64 o] w fun e w' => e = .returned (.bool true) ∧ Below w.heap.size w w' := by
  have hz := hL.sz
  have K := pfx_start w true h l b
  have h0 : 0 < szP true n b := by omega
  have ok := szP_ok h0
  have le := szP_le (v := true) (n := n) (b := b)
  obtain ⟨k, p, hk, hpk, hpN, hfp, hnx, hbz⟩ := great_nums (o := o) h4
  obtain ⟨rh, rl, hr⟩ := IsNum.ex (n := n + p) (host_lt hp.lt ok hpN).1
  obtain ⟨lh, ll, hl⟩ := IsNum.ex (n := lastN true n b) (lastN_small ok hp.lt).1
  have nmp := nmP_host hp.lt ok hpN hfp
  have AW := hide (awake6_c _ (hL.of K.bel hz) (hT.below K.bel))
  have NW := hide (fun w' => poNew_ok (v := true) (b := b) hp h4 w')
  have RN := hide (fun w' => rNew06_c (v := true) (b := b) hp w')
  have FI := hide (fun w' => first_c (v := true) (b := b) hp (Or.inl ⟨ok, rfl, rfl, rfl⟩) w')
  have RH := hide (fun w' => rhas_c (v := true) (u := true) (b := b) hp hr w')
  rw [host_has hp.lt ok hpN] at RH
  have e0 : cnP true n b = szP true n b := by unfold cnP; rw [if_pos h4]
  rw [e0] at RN
  -- the calls, over what is kept
  have GF := hide (fun x a g r base L us f W (S : GSt w L true h l b x a g r base (szP true n b) f us W) => take_g (f := f) hp hp h0 (show tkV f (nmP true n b true n) = 12 by rw [first_kept]; rfl) (show tkF f (nmP true n b true n) = f by rw [first_kept]; rfl) S)
  obtain ⟨f0, hf0⟩ : ∃ f0, kpF (lkP true b) (szP true n b) = f0 := ⟨_, rfl⟩
  have hu : usF (lkP true b) (szP true n b) [] = f0 := by funext q; rw [← hf0]; unfold usF; simp
  rw [hf0] at hfp hnx hbz NW
  have GN := hide (fun x a g r base L us W (S : GSt w L true h l b x a g r base (szP true n b) f0 us W) => next_g (f := f0) hp h0 o0 o1 hnx hr hT S)
  have GT := hide (fun x a g r base L us W (S : GSt w L true h l b x a g r base (szP true n b) (upd f0 p true) us W) => take_g (V := 14) (f' := upd f0 p true) (f := upd f0 p true) hp hr h0 (by rw [nmp]; show (if upd f0 p true p then (14 : Int) else 0) = 14; rw [upd_at]; rfl) (by rw [nmp]; exact upd_upd) S)
  have GH := hide (fun x a g r base L us W (S : GSt w L true h l b x a g r base (szP true n b) (upd f0 p true) us W) => has_g (V := true) (f := upd f0 p true) hp hr h0 (by rw [nmp]; exact upd_at) S)
  have GR := hide (fun x a g r base L us W (S : GSt w L true h l b x a g r base (szP true n b) (upd f0 p true) us W) => free_g (V := 0) (f' := f0) (f := upd f0 p true) hp hr h0 (by rw [nmp]; show (if upd f0 p true p then (0 : Int) else 7) = 0; rw [upd_at]; rfl) (by rw [nmp]; show upd (upd f0 p true) p false = f0; rw [upd_upd, upd_id hfp]) S)
  have GO := hide (fun x a g r base L us W (S : GSt w L true h l b x a g r base (szP true n b) f0 us W) => free_g (V := 7) (f' := f0) (f := f0) hp hr h0 (by rw [nmp]; show (if f0 p then (0 : Int) else 7) = 7; rw [hfp]; rfl) (by rw [nmp]; exact upd_id hfp) S)
  have GX := hide (fun r base W hb1 hb2 (R : RpAt W base true h l b r (szP true n b) []) => rnext06_ok (k := k) (s := o.toNat % szP true n b) (p := p) hp h0 o1 o0 rfl hk hpk (fun j hj => by rw [hu]; exact hbz j hj) (by rw [hu]; exact hfp) hr (by simp) W hb1 hb2 R)
  have c1 := cnt_put6 hpN hfp
  have c2 := cnt_le f0 (szP true n b)
  have c3 := cnt_le (upd f0 p true) (szP true n b)
  obtain ⟨C, hC⟩ : ∃ C : Int, ((szP true n b : Nat) : Int) - (cnt f0 (szP true n b) : Nat) = C := ⟨_, rfl⟩
  have hC1 : ((szP true n b : Nat) : Int) - (cnt (upd f0 p true) (szP true n b) : Nat) = C - 1 := by omega
  have hCb : 1 ≤ C ∧ C ≤ 65536 := by omega
  have GA := hide (fun x a g r base L us W (S : GSt w L true h l b x a g r base (szP true n b) f0 us W) => left_g hC S)
  have GB := hide (fun x a g r base L us W (S : GSt w L true h l b x a g r base (szP true n b) (upd f0 p true) us W) => left_g hC1 S)
  have H4 := hide h4
  have KH := hide K
  obtain ⟨C0, C2⟩ := hCb
  clear hL hT hz K e0 hp hl hr hk hpk hpN hfp hnx hbz nmp hu hf0 c1 c2 c3 hC hC1 h4 h0 ok le
  go_enter Tryz.func5, Tryz.ntmps5
  go_wp2_with fail
  refine AW.out.mono ?_
  rintro e w0 ⟨rfl, hb⟩
  have K0 := hide (KH.out.below hb)
  have F := K0.out.1
  simp only [Facts, CellsAt] at F
  clear AW hb KH
  go_wp2_with fail
  refine (NW.out _).mono ?_
  rintro e w1 ⟨x, a, g, rfl, hP, hb, hx, hg⟩
  have K1 := hide (K0.out.below hb)
  have P1 := hide hP
  have q1 := hP.m.lt
  have q2 := hP.hd.lt
  have q3 := K0.out.lts.1
  have q4 := K1.out.bel.size
  have F1 := K1.out.1
  simp only [Facts, CellsAt] at F1
  clear NW hb K0 F hP
  go_wp2_with fail
  refine (RN.out _).mono ?_
  rintro e w2 (⟨hn, _, _⟩ | ⟨_, r, rfl, hR, hb, hrb⟩)
  · have := H4.out
    omega
  have S0 : Hid (GSt w [(w.heap.size, [.bool true, .int .u64 h, .int .u64 l, .int .i64 b], 28)] true h l b x a g r w1.heap.size (szP true n b) f0 [] w2) := ⟨K1.out.below hb, P1.out.below hb, hR, ⟨by show w.heap.size ≠ g; omega, trivial⟩, by omega, ⟨q1.2.1, q2, q1.1, q4⟩, hrb⟩
  have F2 := S0.out.k.1
  simp only [Facts, CellsAt] at F2
  obtain ⟨base, hbase⟩ : ∃ base, w1.heap.size = base := ⟨_, rfl⟩
  rw [hbase] at S0
  have bs : Hid (base ≤ w2.heap.size) := by show _ ≤ _; rw [← hbase]; exact hb.size
  clear RN hb K1 F1 P1 hR hrb q1 q2 q3 q4 hx hg hbase
  go_wp2_with fail
  refine (FI.out _).mono ?_
  rintro e w3 ⟨rfl, hb⟩
  have S3 := hide (S0.out.below hb)
  have B3 := hide (Nat.le_trans bs.out hb.size)
  have F3 := S3.out.k.1
  simp only [Facts, CellsAt] at F3
  clear FI hb S0 F2 bs
  go_wp2_with fail
  refine (GF.out _ _ _ _ _ _ _ _ _ S3.out).mono ?_
  rintro e w4 ⟨rfl, hS⟩
  have S4 := hide hS
  have F4 := S4.out.k.1
  simp only [Facts, CellsAt] at F4
  clear GF hS S3 F3
  go_wp2_with fail
  refine (GA.out _ _ _ _ _ _ _ _ S4.out).mono ?_
  rintro e w7 ⟨rfl, hS⟩
  have S7 := hide hS
  have F7 := S7.out.k.1
  simp only [Facts, CellsAt] at F7
  clear  hS S4 F4
  go_wp2_with fail
  refine (GN.out _ _ _ _ _ _ _ _ S7.out).mono ?_
  rintro e w8 ⟨rfl, hS⟩
  have S8 := hide (hS.push [.bool true, .int .u64 rh, .int .u64 rl] 26)
  have F8 := S8.out.k.1
  simp only [Facts, CellsAt] at F8
  have bb : base ≤ (w8.alloc (.cells #[.bool true, .int .u64 rh, .int .u64 rl] 26)).heap.size := by
    have := S8.out.gb
    have h1 := S8.out.p.m.lt
    have h2 := S8.out.rr
    obtain ⟨sv, h3, _⟩ := h2.is
    have := h3.lt
    have := S8.out.rb
    omega
  have XX := hide (GX.out r base _ bb S8.out.rb S8.out.rr)
  clear GN GX hS S7 F7 bb
  go_wp2_with fail
  refine XX.out.mono ?_
  rintro e w9 ⟨rfl, hR, hB, hKp⟩
  have S9 : Hid (GSt w [(w8.heap.size, [.bool true, .int .u64 rh, .int .u64 rl], 26), (w.heap.size, [.bool true, .int .u64 h, .int .u64 l, .int .i64 b], 28)] true h l b x a g r base (szP true n b) (upd f0 p true) ([] ++ [p]) w9) := by
    have T := S8.out
    have gb := T.gb
    have rb := T.rb
    have n1 : w8.heap.size ≠ r := by
      intro c
      obtain ⟨sv, h3, _⟩ := T.rr.is
      have h4 := T.k.2.1.1
      unfold Blk at h3 h4
      rw [show ((w8.heap.size, ([.bool true, .int .u64 rh, .int .u64 rl] : List Value), (26 : TypeId))).1 = r from c] at h4
      rw [h3] at h4
      cases h4
    have n2 : w.heap.size ≠ r := by
      have := T.k.lts.2.1
      intro c
      obtain ⟨sv, h3, _⟩ := T.rr.is
      have h4 := T.k.2.1.2.1
      unfold Blk at h3 h4
      rw [show ((w.heap.size, ([.bool true, .int .u64 h, .int .u64 l, .int .i64 b] : List Value), (28 : TypeId))).1 = r from c] at h4
      rw [h3] at h4
      cases h4
    exact ⟨Kn.of ⟨hKp _ _ _ T.k.2.1.1 (show 3 ≠ 26 by decide) n1, hKp _ _ _ T.k.2.1.2.1 (show 3 ≠ 28 by decide) n2, trivial⟩ (T.k.bel.trans (hB.mono gb.2.2.2)), T.p.keep hB gb.2.1 gb.2.2.1 gb.1, hR, T.og, T.hg, gb, rb⟩
  have S9' := hide (S9.out.push [.bool true, .int .u64 rh, .int .u64 rl] 26)
  have F9 := S9'.out.k.1
  simp only [Facts, CellsAt] at F9
  clear XX hR hB hKp S8 F8 S9
  go_wp2_with fail
  refine (GH.out _ _ _ _ _ _ _ _ S9'.out).mono ?_
  rintro e w10 ⟨rfl, hS⟩
  have S10 := hide hS
  have F10 := S10.out.k.1
  simp only [Facts, CellsAt] at F10
  clear GH hS S9' F9
  go_wp2_with fail
  refine (GT.out _ _ _ _ _ _ _ _ S10.out).mono ?_
  rintro e w11 ⟨rfl, hS⟩
  have S11 := hide hS
  have F11 := S11.out.k.1
  simp only [Facts, CellsAt] at F11
  clear GT hS S10 F10
  go_wp2_with fail
  refine (GB.out _ _ _ _ _ _ _ _ S11.out).mono ?_
  rintro e w12 ⟨rfl, hS⟩
  have S12 := hide hS
  have F12 := S12.out.k.1
  simp only [Facts, CellsAt] at F12
  clear GB hS S11 F11
  go_wp2_with fail
  refine (GR.out _ _ _ _ _ _ _ _ S12.out).mono ?_
  rintro e w13 ⟨rfl, hS⟩
  have S13 := hide hS
  have F13 := S13.out.k.1
  simp only [Facts, CellsAt] at F13
  clear GR hS S12 F12
  go_wp2_with fail
  refine (GO.out _ _ _ _ _ _ _ _ S13.out).mono ?_
  rintro e w14 ⟨rfl, hS⟩
  have S14 := hide hS
  have F14 := S14.out.k.1
  simp only [Facts, CellsAt] at F14
  clear GO hS S13 F13
  go_wp2_with fail
  refine (GA.out _ _ _ _ _ _ _ _ S14.out).mono ?_
  rintro e w15 ⟨rfl, hS⟩
  have S15 := hide hS
  have F15 := S15.out.k.1
  simp only [Facts, CellsAt] at F15
  clear GA hS S14 F14
  go_wp2_with fail
  refine (RH.out _).mono ?_
  rintro e w16 ⟨rfl, hb⟩
  have B16 := (S15.out.k.below hb).bel
  clear RH hb S15 F15
  go_wp2
  go_ret
  exact ⟨by first | rfl | simp, B16⟩

set_option maxRecDepth 100000 in
set_option maxHeartbeats 6400000 in
theorem pgreat_v4 {h l b o : Int} {n : Nat} (hp : IsNum h l n) (h4 : 4 ≤ szP false n b) (o0 : -9223372036854775808 ≤ o) (o1 : o ≤ 9223372036854775807) (w : World) (hL : LW w) (hT : TB w) :
    Calls Tryz.prog 5 #[pv false h l b, .int .i64 o] w fun e w' => e = .returned (.bool true) ∧ Below w.heap.size w w' := by
  have hz := hL.sz
  have K := pfx_start w false h l b
  have h0 : 0 < szP false n b := by omega
  have ok := szP_ok h0
  have le := szP_le (v := false) (n := n) (b := b)
  obtain ⟨k, p, hk, hpk, hpN, hfp, hnx, hbz⟩ := great_nums (o := o) h4
  obtain ⟨rh, rl, hr⟩ := IsNum.ex (n := n + p) (host_lt hp.lt ok hpN).1
  obtain ⟨lh, ll, hl⟩ := IsNum.ex (n := lastN false n b) (lastN_small ok hp.lt).1
  have nmp := nmP_host hp.lt ok hpN hfp
  have AW := hide (awake6_c _ (hL.of K.bel hz) (hT.below K.bel))
  have NW := hide (fun w' => poNew_ok (v := false) (b := b) hp h4 w')
  have RN := hide (fun w' => rNew06_c (v := false) (b := b) hp w')
  have FI := hide (fun w' => first_c (v := false) (b := b) hp (Or.inl ⟨ok, rfl, rfl, rfl⟩) w')
  have LA := hide (fun w' => last_ok (v := false) (b := b) hp ok hl w')
  have RH := hide (fun w' => rhas_c (v := false) (u := false) (b := b) hp hr w')
  rw [host_has hp.lt ok hpN] at RH
  have e0 : cnP false n b = szP false n b := by unfold cnP; rw [if_pos h4]
  rw [e0] at RN
  -- the calls, over what is kept
  have GF := hide (fun x a g r base L us f W (S : GSt w L false h l b x a g r base (szP false n b) f us W) => take_g (f := f) hp hp h0 (show tkV f (nmP false n b false n) = 12 by rw [first_kept]; rfl) (show tkF f (nmP false n b false n) = f by rw [first_kept]; rfl) S)
  have GL := hide (fun x a g r base L us f W (S : GSt w L false h l b x a g r base (szP false n b) f us W) => take_g (f := f) hp hl h0 (show tkV f (nmP false n b false (lastN false n b)) = 12 by rw [last_kept ok h0]; rfl) (show tkF f (nmP false n b false (lastN false n b)) = f by rw [last_kept ok h0]; rfl) S)
  obtain ⟨f0, hf0⟩ : ∃ f0, kpF (lkP false b) (szP false n b) = f0 := ⟨_, rfl⟩
  have hu : usF (lkP false b) (szP false n b) [] = f0 := by funext q; rw [← hf0]; unfold usF; simp
  rw [hf0] at hfp hnx hbz NW
  have GN := hide (fun x a g r base L us W (S : GSt w L false h l b x a g r base (szP false n b) f0 us W) => next_g (f := f0) hp h0 o0 o1 hnx hr hT S)
  have GT := hide (fun x a g r base L us W (S : GSt w L false h l b x a g r base (szP false n b) (upd f0 p true) us W) => take_g (V := 14) (f' := upd f0 p true) (f := upd f0 p true) hp hr h0 (by rw [nmp]; show (if upd f0 p true p then (14 : Int) else 0) = 14; rw [upd_at]; rfl) (by rw [nmp]; exact upd_upd) S)
  have GH := hide (fun x a g r base L us W (S : GSt w L false h l b x a g r base (szP false n b) (upd f0 p true) us W) => has_g (V := true) (f := upd f0 p true) hp hr h0 (by rw [nmp]; exact upd_at) S)
  have GR := hide (fun x a g r base L us W (S : GSt w L false h l b x a g r base (szP false n b) (upd f0 p true) us W) => free_g (V := 0) (f' := f0) (f := upd f0 p true) hp hr h0 (by rw [nmp]; show (if upd f0 p true p then (0 : Int) else 7) = 0; rw [upd_at]; rfl) (by rw [nmp]; show upd (upd f0 p true) p false = f0; rw [upd_upd, upd_id hfp]) S)
  have GO := hide (fun x a g r base L us W (S : GSt w L false h l b x a g r base (szP false n b) f0 us W) => free_g (V := 7) (f' := f0) (f := f0) hp hr h0 (by rw [nmp]; show (if f0 p then (0 : Int) else 7) = 7; rw [hfp]; rfl) (by rw [nmp]; exact upd_id hfp) S)
  have GX := hide (fun r base W hb1 hb2 (R : RpAt W base false h l b r (szP false n b) []) => rnext06_ok (k := k) (s := o.toNat % szP false n b) (p := p) hp h0 o1 o0 rfl hk hpk (fun j hj => by rw [hu]; exact hbz j hj) (by rw [hu]; exact hfp) hr (by simp) W hb1 hb2 R)
  have c1 := cnt_put6 hpN hfp
  have c2 := cnt_le f0 (szP false n b)
  have c3 := cnt_le (upd f0 p true) (szP false n b)
  obtain ⟨C, hC⟩ : ∃ C : Int, ((szP false n b : Nat) : Int) - (cnt f0 (szP false n b) : Nat) = C := ⟨_, rfl⟩
  have hC1 : ((szP false n b : Nat) : Int) - (cnt (upd f0 p true) (szP false n b) : Nat) = C - 1 := by omega
  have hCb : 1 ≤ C ∧ C ≤ 65536 := by omega
  have GA := hide (fun x a g r base L us W (S : GSt w L false h l b x a g r base (szP false n b) f0 us W) => left_g hC S)
  have GB := hide (fun x a g r base L us W (S : GSt w L false h l b x a g r base (szP false n b) (upd f0 p true) us W) => left_g hC1 S)
  have H4 := hide h4
  have KH := hide K
  obtain ⟨C0, C2⟩ := hCb
  clear hL hT hz K e0 hp hl hr hk hpk hpN hfp hnx hbz nmp hu hf0 c1 c2 c3 hC hC1 h4 h0 ok le
  go_enter Tryz.func5, Tryz.ntmps5
  go_wp2_with fail
  refine AW.out.mono ?_
  rintro e w0 ⟨rfl, hb⟩
  have K0 := hide (KH.out.below hb)
  have F := K0.out.1
  simp only [Facts, CellsAt] at F
  clear AW hb KH
  go_wp2_with fail
  refine (NW.out _).mono ?_
  rintro e w1 ⟨x, a, g, rfl, hP, hb, hx, hg⟩
  have K1 := hide (K0.out.below hb)
  have P1 := hide hP
  have q1 := hP.m.lt
  have q2 := hP.hd.lt
  have q3 := K0.out.lts.1
  have q4 := K1.out.bel.size
  have F1 := K1.out.1
  simp only [Facts, CellsAt] at F1
  clear NW hb K0 F hP
  go_wp2_with fail
  refine (RN.out _).mono ?_
  rintro e w2 (⟨hn, _, _⟩ | ⟨_, r, rfl, hR, hb, hrb⟩)
  · have := H4.out
    omega
  have S0 : Hid (GSt w [(w.heap.size, [.bool false, .int .u64 h, .int .u64 l, .int .i64 b], 28)] false h l b x a g r w1.heap.size (szP false n b) f0 [] w2) := ⟨K1.out.below hb, P1.out.below hb, hR, ⟨by show w.heap.size ≠ g; omega, trivial⟩, by omega, ⟨q1.2.1, q2, q1.1, q4⟩, hrb⟩
  have F2 := S0.out.k.1
  simp only [Facts, CellsAt] at F2
  obtain ⟨base, hbase⟩ : ∃ base, w1.heap.size = base := ⟨_, rfl⟩
  rw [hbase] at S0
  have bs : Hid (base ≤ w2.heap.size) := by show _ ≤ _; rw [← hbase]; exact hb.size
  clear RN hb K1 F1 P1 hR hrb q1 q2 q3 q4 hx hg hbase
  go_wp2_with fail
  refine (FI.out _).mono ?_
  rintro e w3 ⟨rfl, hb⟩
  have S3 := hide (S0.out.below hb)
  have B3 := hide (Nat.le_trans bs.out hb.size)
  have F3 := S3.out.k.1
  simp only [Facts, CellsAt] at F3
  clear FI hb S0 F2 bs
  go_wp2_with fail
  refine (GF.out _ _ _ _ _ _ _ _ _ S3.out).mono ?_
  rintro e w4 ⟨rfl, hS⟩
  have S4 := hide hS
  have F4 := S4.out.k.1
  simp only [Facts, CellsAt] at F4
  clear GF hS S3 F3
  go_wp2_with fail
  refine (LA.out _).mono ?_
  rintro e w5 ⟨rfl, hb⟩
  have S5 := hide (S4.out.below hb)
  have F5 := S5.out.k.1
  simp only [Facts, CellsAt] at F5
  clear LA hb S4 F4
  go_wp2_with fail
  refine (GL.out _ _ _ _ _ _ _ _ _ S5.out).mono ?_
  rintro e w6 ⟨rfl, hS⟩
  have S6 := hide hS
  have F6 := S6.out.k.1
  simp only [Facts, CellsAt] at F6
  clear GL hS S5 F5
  go_wp2_with fail
  refine (GA.out _ _ _ _ _ _ _ _ S6.out).mono ?_
  rintro e w7 ⟨rfl, hS⟩
  have S7 := hide hS
  have F7 := S7.out.k.1
  simp only [Facts, CellsAt] at F7
  clear  hS S6 F6
  go_wp2_with fail
  refine (GN.out _ _ _ _ _ _ _ _ S7.out).mono ?_
  rintro e w8 ⟨rfl, hS⟩
  have S8 := hide (hS.push [.bool false, .int .u64 rh, .int .u64 rl] 26)
  have F8 := S8.out.k.1
  simp only [Facts, CellsAt] at F8
  have bb : base ≤ (w8.alloc (.cells #[.bool false, .int .u64 rh, .int .u64 rl] 26)).heap.size := by
    have := S8.out.gb
    have h1 := S8.out.p.m.lt
    have h2 := S8.out.rr
    obtain ⟨sv, h3, _⟩ := h2.is
    have := h3.lt
    have := S8.out.rb
    omega
  have XX := hide (GX.out r base _ bb S8.out.rb S8.out.rr)
  clear GN GX hS S7 F7 bb
  go_wp2_with fail
  refine XX.out.mono ?_
  rintro e w9 ⟨rfl, hR, hB, hKp⟩
  have S9 : Hid (GSt w [(w8.heap.size, [.bool false, .int .u64 rh, .int .u64 rl], 26), (w.heap.size, [.bool false, .int .u64 h, .int .u64 l, .int .i64 b], 28)] false h l b x a g r base (szP false n b) (upd f0 p true) ([] ++ [p]) w9) := by
    have T := S8.out
    have gb := T.gb
    have rb := T.rb
    have n1 : w8.heap.size ≠ r := by
      intro c
      obtain ⟨sv, h3, _⟩ := T.rr.is
      have h4 := T.k.2.1.1
      unfold Blk at h3 h4
      rw [show ((w8.heap.size, ([.bool false, .int .u64 rh, .int .u64 rl] : List Value), (26 : TypeId))).1 = r from c] at h4
      rw [h3] at h4
      cases h4
    have n2 : w.heap.size ≠ r := by
      have := T.k.lts.2.1
      intro c
      obtain ⟨sv, h3, _⟩ := T.rr.is
      have h4 := T.k.2.1.2.1
      unfold Blk at h3 h4
      rw [show ((w.heap.size, ([.bool false, .int .u64 h, .int .u64 l, .int .i64 b] : List Value), (28 : TypeId))).1 = r from c] at h4
      rw [h3] at h4
      cases h4
    exact ⟨Kn.of ⟨hKp _ _ _ T.k.2.1.1 (show 3 ≠ 26 by decide) n1, hKp _ _ _ T.k.2.1.2.1 (show 3 ≠ 28 by decide) n2, trivial⟩ (T.k.bel.trans (hB.mono gb.2.2.2)), T.p.keep hB gb.2.1 gb.2.2.1 gb.1, hR, T.og, T.hg, gb, rb⟩
  have S9' := hide (S9.out.push [.bool false, .int .u64 rh, .int .u64 rl] 26)
  have F9 := S9'.out.k.1
  simp only [Facts, CellsAt] at F9
  clear XX hR hB hKp S8 F8 S9
  go_wp2_with fail
  refine (GH.out _ _ _ _ _ _ _ _ S9'.out).mono ?_
  rintro e w10 ⟨rfl, hS⟩
  have S10 := hide hS
  have F10 := S10.out.k.1
  simp only [Facts, CellsAt] at F10
  clear GH hS S9' F9
  go_wp2_with fail
  refine (GT.out _ _ _ _ _ _ _ _ S10.out).mono ?_
  rintro e w11 ⟨rfl, hS⟩
  have S11 := hide hS
  have F11 := S11.out.k.1
  simp only [Facts, CellsAt] at F11
  clear GT hS S10 F10
  go_wp2_with fail
  refine (GB.out _ _ _ _ _ _ _ _ S11.out).mono ?_
  rintro e w12 ⟨rfl, hS⟩
  have S12 := hide hS
  have F12 := S12.out.k.1
  simp only [Facts, CellsAt] at F12
  clear GB hS S11 F11
  go_wp2_with fail
  refine (GR.out _ _ _ _ _ _ _ _ S12.out).mono ?_
  rintro e w13 ⟨rfl, hS⟩
  have S13 := hide hS
  have F13 := S13.out.k.1
  simp only [Facts, CellsAt] at F13
  clear GR hS S12 F12
  go_wp2_with fail
  refine (GO.out _ _ _ _ _ _ _ _ S13.out).mono ?_
  rintro e w14 ⟨rfl, hS⟩
  have S14 := hide hS
  have F14 := S14.out.k.1
  simp only [Facts, CellsAt] at F14
  clear GO hS S13 F13
  go_wp2_with fail
  refine (GA.out _ _ _ _ _ _ _ _ S14.out).mono ?_
  rintro e w15 ⟨rfl, hS⟩
  have S15 := hide hS
  have F15 := S15.out.k.1
  simp only [Facts, CellsAt] at F15
  clear GA hS S14 F14
  go_wp2_with fail
  refine (RH.out _).mono ?_
  rintro e w16 ⟨rfl, hb⟩
  have B16 := (S15.out.k.below hb).bel
  clear RH hb S15 F15
  go_wp2
  go_ret
  exact ⟨by first | rfl | simp, B16⟩

theorem pgreat_walk {v : Bool} {h l b o : Int} {n : Nat} (hp : IsNum h l n) (o0 : -9223372036854775808 ≤ o) (o1 : o ≤ 9223372036854775807) (w : World) (hL : LW w) (hT : TB w) :
    Calls Tryz.prog 5 #[pv v h l b, .int .i64 o] w fun e w' => e = .returned (.bool true) ∧ Below w.heap.size w w' := by
  by_cases h4 : 4 ≤ szP v n b
  · cases v
    · exact pgreat_v4 hp h4 o0 o1 w hL hT
    · exact pgreat_v6 hp h4 o0 o1 w hL hT
  · exact pgreat_small hp h4 w hL hT
end Go.Proofs.YtighdocmncbdnaaGreatDoor
