/-
  Texts SeN of the proof.
-/
import Derived.Deep.DeepCutAuto
import Derived.Deep.RegionLawGrows
import Derived.Test.YtllidkflgjjkfaaGreatDoorC18
import Derived.Test.YtllidkflgjjkfaaGreatDoorC43
import Derived.Test.YtllidkflgjjkfaaGreatDoorC42
import Derived.Test.YtllidkflgjjkfaaGreatDoorC0

namespace Go.Proofs.YtllidkflgjjkfaaGreatDoor
open Go.ChangeShapes Go.WideShapes Go.ChangeAt Go.RowKit
set_option linter.unusedVariables false
set_option linter.unusedSimpArgs false

/-- append to a row of the call's own, as one step of a region that draws. -/
theorem step_own7 {P : Program} {ops : Array Oper} {o : Oper} {a : Act} {w : World} {K : Act → World → Prop} {Q : Exit → Act → World → Prop} {E : Prop}
    (hg : o.guard = none) (s x : Operand) (t : TypeId) (hop : o.op = Op.call { callee := Callee.builtin Builtin.append, args := #[s, x], argTypes := #[t, t] })
    (base : Nat) (e : TypeId) (i : TypeInfo) (z : Value) (size bytes : Nat) (h1 : P.underlying t = some (.slice e)) (h2 : P.info? e = some i) (h3 : i.zero = some z) (h4 : i.size = size) (h5 : i.bytes = bytes) (h6 : z.cells.size = size) (h7 : 0 < size)
    (v : Value) (n : Nat) (xs : List Value) (hs : a.eval s = v) (hown : w.ownsRow base e size v n xs)
    (ad : Addr) (m c : Nat) (news : List Value) (hx : a.eval x = .slice (some ad) m c) (hn : news.length = m * size) (hc : ∀ j u, news[j]? = some u → w.cell? (ad.add j) = some u) (h1c : ∀ u ∈ news, u.oneCell' = true)
    (b1 : n + m ≤ maxLen) (b2 : (n + m) * bytes ≤ 140737488355328) (hbase : base ≤ w.heap.size)
    (hK : ∀ v' w', w'.ownsRow base e size v' (n + m) (xs ++ news) → w.grownBy w' v.ownBlock → K (a.put o.dst v') w') :
    if Region.wanted o (yielded ops a.tmps) = true then Oper.wp P o a w K Q else E := by
  have hw : Region.wanted o (yielded ops a.tmps) = true := by simp [Region.wanted, hg]
  rw [if_pos hw]
  obtain ⟨v', w', hrun, r1, r2, _⟩ := run_append_own (P := P) w base t o.type e i z size bytes h1 h2 h3 h4 h5 h6 h7 v n xs hown ad m c news hn hc h1c b1 b2 hbase
  unfold Oper.wp
  simp [execOp, hop, resolve, invoke, builtin, hs, hx, hrun, Result.andThen]
  exact hK v' w' r1 r2

theorem own_ne7 {W : World} {base size q r : Nat} {e t : TypeId} {sv : Value} {xs : List Value} {cs : Array Value} (h : W.ownsRow base e size sv q xs) (hb : Blk W r cs t) (hne : e ≠ t) : sv.ownBlock ≠ some r := by
  rcases h.2 with ⟨h1, _⟩ | ⟨g', cap, cur, h1, _, h3, _⟩
  · rw [h1]
    intro c
    cases c
  · rw [h1]
    intro c
    have : g' = r := by injection c
    subst this
    unfold Blk at hb
    rw [h3] at hb
    injection hb with hb
    injection hb with _ hb
    exact hne hb

theorem own_grown7 {W W' : World} {base size q r : Nat} {e t : TypeId} {cs : Array Value} {xs : List Value} {sv : Value} {o : Obj} (hb : Blk W r cs t) (ho : W.ownsRow base e size sv q xs) (ht : e ≠ t) (hg : (W.alloc o).grownBy W' sv.ownBlock) : Blk W' r cs t := by
  have := hb.alloc o
  unfold Blk at this ⊢
  rw [hg.block r (by have := hb.lt; simp; omega) (fun c => own_ne7 ho hb ht c.symm)]
  exact this

theorem own_store7 {W : World} {base size q r : Nat} {e : TypeId} {xs : List Value} {sv : Value} (h : W.ownsRow base e size sv q xs) (hne : sv.ownBlock ≠ some r) (i : Nat) (u : Value) : (W.setCell ⟨r, i, none⟩ u).ownsRow base e size sv q xs :=
  ownsRow_setCell_other h (a := ⟨r, i, none⟩) (by simpa using hne) u

/-- The reference's set while it is made: its first j blocks. -/
def NSt (w : World) (base : Nat) (v : Bool) (h l b k : Int) (r gu n N : Nat) (j : Nat) (W : World) : Prop :=
  ∃ sv, Blk W r #[.bool v, .int .u64 h, .int .u64 l, .int .i64 b, .int .i64 k, sv, .slice (some ⟨gu, 0, none⟩) N N, .int .i64 0] 77 ∧ W.ownsRow base 28 4 sv j (allB v n k j) ∧ Blk W gu ((List.range N).map (fun p => Value.bool ((fun _ => false) p))).toArray 4 ∧ Kn w [(w.heap.size, [.bool v, .int .u64 h, .int .u64 l, .int .i64 b], 28)] W ∧ base ≤ W.heap.size ∧ r < base ∧ gu < base ∧ w.heap.size < base ∧ w.heap.size < r ∧ w.heap.size < gu

theorem NSt.bel {w : World} {base : Nat} {v : Bool} {h l b k : Int} {r gu n N j : Nat} {W : World} (S : NSt w base v h l b k r gu n N j W) : Below w.heap.size w W := by
  obtain ⟨sv, h1, h2, h3, h4, h5, h6⟩ := S
  exact h4.bel

theorem NSt.below {w : World} {base : Nat} {v : Bool} {h l b k : Int} {r gu n N j : Nat} {W W' : World} (S : NSt w base v h l b k r gu n N j W) (q : Below W.heap.size W W') : NSt w base v h l b k r gu n N j W' := by
  obtain ⟨sv, h1, h2, h3, h4, h5, h6⟩ := S
  exact ⟨sv, h1.below q, own_below h2 q, h3.below q, h4.below q, Nat.le_trans h5 q.size, h6⟩

theorem NSt.done {w : World} {base : Nat} {v : Bool} {h l b k : Int} {r gu n N : Nat} {W : World} (h0 : 0 < N) (S : NSt w base v h l b k r gu n N N W) : ∃ gl cap, RAt W v h l b k r gl cap gu n N (fun _ => false) 0 ∧ Below w.heap.size w W ∧ w.heap.size ≤ r ∧ w.heap.size ≤ gl ∧ w.heap.size ≤ gu := by
  obtain ⟨sv, h1, h2, h3, h4, h5, h6, h7, h8, h9, h10⟩ := S
  rcases h2.2 with ⟨_, c⟩ | ⟨g, cap, cur, e1, e2, e3, e4, e5, e6, e7⟩
  · omega
  · subst e1
    refine ⟨g, cap, ⟨h1, ⟨cur, e3, fun j u hj => ?_⟩, h3, h0⟩, h4.bel, by omega, by omega, by omega⟩
    rw [← e7] at hj
    rw [List.getElem?_take] at hj
    split at hj
    · simpa using hj
    · cases hj

set_option maxRecDepth 100000 in
set_option maxHeartbeats 6400000 in
theorem rnew7_c {v : Bool} {h l b k : Int} {n N : Nat} (O : SetOf v h l b k n N) (hN : N ≤ 256) (w : World) :
    Calls Tryz.prog 31 #[pv v h l b, .int .i64 k] w fun e w' => ∃ r gl cap gu, e = .returned (.tuple #[.pointer (some ⟨r, 0, none⟩), .int .i64 0]) ∧ RAt w' v h l b k r gl cap gu n N (fun _ => false) 0 ∧ Below w.heap.size w w' ∧ w.heap.size ≤ r ∧ w.heap.size ≤ gl ∧ w.heap.size ≤ gu := by
  have K0 := hide (pfx_start7 w v h l b)
  have CU := hide (fun w' => rcuts_c (v := v) (b := b) (k := k) O.num w')
  rw [O.cut] at CU
  obtain ⟨b0, b1, b2⟩ := O.bits
  obtain ⟨J, hJ⟩ : ∃ J, (k - b).toNat = J := ⟨_, rfl⟩
  have hk : k = b + (J : Int) := by omega
  have e2 : 2 ^ J = N := by rw [← hJ]; exact O.len
  have J8 : J ≤ 8 := by
    apply Classical.byContradiction
    intro c
    have le := Nat.pow_le_pow_right (n := 2) (by decide) (show 9 ≤ J by omega)
    rw [show (2 : Nat) ^ 9 = 512 by decide] at le
    omega
  have BK := hide (fun (j : Nat) (hj : j < N) w' => rbk_ok O.num (show IsNum 0 (j : Int) j from ⟨by omega, by omega, by omega, by omega, by omega⟩) O.cut (by rw [O.len]; exact hj) (num_parts7 (blk_ok O.cut O.num.lt (by rw [O.len]; exact hj)).2) w')
  have OP := O.pos
  have hw1 : IntKind.i64.wrap (k - b) = k - b := by simp [IntKind.wrap, IntKind.bits, IntKind.signed]; omega
  have c16 : ¬ k - b > 16 := by omega
  obtain ⟨i0, hinf, hz0, hz1, hz2⟩ := info_parts infoPfx7
  have hmk : ∀ w, (Instr.makeSlice 75 (.int .i64 (N : Int)) (.int .i64 (N : Int))).run Tryz.prog w = .ok (.slice (some ⟨w.heap.size, 0, none⟩) N N) (w.alloc (.cells (madeCells #[.bool false] N) 4)) := fun w =>
    run_make_row' (P := Tryz.prog) 75 4 (.bool false) 1 Tryz.underlying75 infoBool rfl .i64 .i64 N (by omega) (by omega) w
  have e1 : madeCells #[Value.bool false] N = ((List.range N).map (fun p => Value.bool ((fun _ => false) p))).toArray := by
    apply Array.ext'; rw [toList_madeCells_one]; simp [List.map_const']
  have E1 := hide e1
  have E2 := hide e2
  have HK := hide hk
  clear O hJ e1 e2 hk
  go_enter Tryz.func31, Tryz.ntmps31
  go_wp2_with fail
  refine (CU.out _).mono ?_
  rintro e w1 ⟨rfl, hb⟩
  have K1 := hide (K0.out.below hb)
  have F1 := K1.out.1
  simp only [Facts, CellsAt] at F1
  clear CU hb K0
  go_wp2_with fail
  go_loopw [6, 7] (fun nv iv wr => ∃ (j : Nat) (I p : Int), j ≤ J ∧ iv = .int .i64 I ∧ nv = .int .i64 p ∧ Hid (I = b + (j : Int)) ∧ b ≤ I ∧ I ≤ k ∧ Hid (p = ((2 ^ j : Nat) : Int)) ∧ 1 ≤ p ∧ p ≤ 256 ∧ wr = w1) (fun _ iv _ => (k - intOf iv).toNat)
  case atStart => exact ⟨0, b, 1, by omega, rfl, rfl, (show _ = _ by simp), by omega, by omega, rfl, by omega, by omega, rfl⟩
  case round =>
    obtain ⟨j, I, p, hj, rfl, rfl, hI, I0, I1, hpj, p0, p1, rfl⟩ := hrel
    by_cases hlt : I < k
    · have hjJ : j < J := by have := hI.out; have := HK.out; omega
      have hp2 : Hid (2 * p = ((2 ^ (j + 1) : Nat) : Int)) := by show _ = _; rw [hpj.out, Nat.pow_succ]; omega
      have q1 : 2 * p ≤ 256 := by
        rw [hp2.out]
        have := Nat.pow_le_pow_right (n := 2) (by decide) (show j + 1 ≤ 8 by omega)
        rw [show (2 : Nat) ^ 8 = 256 by decide] at this
        generalize 2 ^ (j + 1) = z at *
        omega
      have hI2 : Hid (I + 1 = b + ((j + 1 : Nat) : Int)) := by show _ = _; rw [hI.out]; omega
      clear hpj hI
      go_wp2
      go_roundw
      case rel => exact ⟨j + 1, I + 1, 2 * p, by omega, by go_num, by go_num, hI2, by omega, by omega, hp2, by omega, q1, by first | rfl | trivial⟩
      case measure => simp [intOf]; omega
    · have hpN : p = (N : Int) := by
        rw [hpj.out, ← E2.out]
        have : j = J := by have := hI.out; have := HK.out; omega
        rw [this]
      subst hpN
      have R0 := K1.out
      obtain ⟨w0, hw0⟩ : ∃ w0, w0 = wr := ⟨_, rfl⟩
      clear hpj hI hw1 c16 F1 K1 I0 I1 hj
      rw [← hw0] at R0
      have LT := R0.lts
      simp only [Lts] at LT
      go_upto_region 10 with fail
      rw [← hw0]
      clear hw0
      go_cut [8] (fun p wc => p = .pointer (some ⟨w0.heap.size + 1, 0, none⟩) ∧ NSt w (w0.heap.size + 2) v h l b k (w0.heap.size + 1) w0.heap.size n N 0 wc)
      case first =>
        refine wp_region_held_drew (S := (Kn w [(w.heap.size, [.bool v, .int .u64 h, .int .u64 l, .int .i64 b], 28)])) (by kernel_rfl) ?hS5001 (fun hHeld => ?rest5001)
        case hS5001 => (first | with_reducible exact R0.drew | with_reducible exact (R0.alloc _).drew | with_reducible exact ((R0.alloc _).alloc _).drew | exact hHeld.alloc _)
        refine wtk7 (i := 0) (v := ?v5002) (ga7 rfl) (by kernel_rfl) (fun _ _ _ h => h) ⟨by rfl, ?hy5002⟩ (by assumption) ?rest5002
        case hy5002 => (intro wq hSw; (try simp only [Kn, Facts, CellsAt] at hSw); go_simp; try with_reducible rfl)
        try simp only [Act.put, sa7, sb7, sc7]
        refine wtk7 (i := 1) (v := ?v5003) (ga7 rfl) (by kernel_rfl) (fun _ _ _ h => h) ⟨by rfl, ?hy5003⟩ (by assumption) ?rest5003
        case hy5003 => (intro wq hSw; (try simp only [Kn, Facts, CellsAt] at hSw); go_simp; try with_reducible rfl)
        try simp only [Act.put, sa7, sb7, sc7]
        refine wtk7 (i := 2) (v := ?v5004) (ga7 rfl) (by kernel_rfl) (fun _ _ _ h => h) ⟨by rfl, ?hy5004⟩ (by assumption) ?rest5004
        case hy5004 => (intro wq hSw; (try simp only [Kn, Facts, CellsAt] at hSw); go_simp; try with_reducible rfl)
        try simp only [Act.put, sa7, sb7, sc7]
        refine wpAnyH_ready (rs := [3]) (by kernel_rfl) (by simp) ?rdy5005
        refine (AllReadyH.cons (ga7 rfl) (fun K hK => ?stp5005_3) AllReadyH.nil)
        case stp5005_3 =>
          go_simp
          go_wp2_with fail
          refine hK.out _ _ ?hSn5006 (fun hHeld2 => ?rest5006)
          case hSn5006 => (first | with_reducible exact R0.drew | with_reducible exact (R0.alloc _).drew | with_reducible exact ((R0.alloc _).alloc _).drew | exact hHeld.alloc _)
          clear hK K hHeld
          have hHeld := hHeld2
          clear hHeld2
          try simp only [Act.put, sa7, sb7, sc7]
          refine wtk7 (i := 4) (v := ?v5007) (ga7 rfl) (by kernel_rfl) (fun _ _ _ h => h) ⟨by rfl, ?hy5007⟩ (by assumption) ?rest5007
          case hy5007 => (intro wq hSw; (try simp only [Kn, Facts, CellsAt] at hSw); go_simp; try with_reducible rfl)
          try simp only [Act.put, sa7, sb7, sc7]
          refine wpAnyH_ready (rs := [5]) (by kernel_rfl) (by simp) ?rdy5008
          refine (AllReadyH.cons (ga7 rfl) (fun K hK => ?stp5008_5) AllReadyH.nil)
          case stp5008_5 =>
            go_simp
            go_wp2_with fail
            refine hK.out _ _ ?hSn5009 (fun hHeld2 => ?rest5009)
            case hSn5009 => (first | with_reducible exact R0.drew | with_reducible exact (R0.alloc _).drew | with_reducible exact ((R0.alloc _).alloc _).drew | exact hHeld.alloc _)
            clear hK K hHeld
            have hHeld := hHeld2
            clear hHeld2
            try simp only [Act.put, sa7, sb7, sc7]
            refine wtk7 (i := 6) (v := ?v5010) (ga7 rfl) (by kernel_rfl) (fun _ _ _ h => h) ⟨by rfl, ?hy5010⟩ (by assumption) ?rest5010
            case hy5010 => (intro wq hSw; (try simp only [Kn, Facts, CellsAt] at hSw); go_simp; try with_reducible rfl)
            try simp only [Act.put, sa7, sb7, sc7]
            refine wpAnyH_done (by kernel_rfl) ?_ _
            go_wp2_with fail
            go_meet
            case rel => exact ⟨by first | rfl | simp, ⟨.slice none 0 0, (Blk.newB7 w0 (.cells (madeCells #[.bool false] N) 4) #[.bool v, .int .u64 h, .int .u64 l, .int .i64 b, .int .i64 k, .slice none 0 0, .slice (some ⟨w0.heap.size, 0, none⟩) N N, .int .i64 0] 77), World.ownsRow_nil _ _ _ _, (by rw [← E1.out]; exact (Blk.new w0 (madeCells #[.bool false] N) 4).alloc _), hHeld, (by simp), (by omega), (by omega), (by omega), (by omega), (by omega)⟩⟩
      case rest =>
        obtain ⟨rfl, S0⟩ := hcut
        have SH := hide S0
        obtain ⟨base, hbase⟩ : ∃ base, base = w0.heap.size + 2 := ⟨_, rfl⟩
        obtain ⟨r, hr⟩ : ∃ r, r = w0.heap.size + 1 := ⟨_, rfl⟩
        obtain ⟨gu, hgu⟩ : ∃ gu, gu = w0.heap.size := ⟨_, rfl⟩
        rw [← hbase, ← hr, ← hgu] at SH
        rw [← hr]
        clear S0 R0 LT hbase hr hgu hmk E1
        go_wp2_with fail
        go_loopw [9] (fun iv wr => ∃ j : Nat, j ≤ N ∧ iv = .int .i64 j ∧ Hid (NSt w base v h l b k r gu n N j wr)) (fun iv _ => N - (intOf iv).toNat)
        case atStart => exact ⟨0, by omega, rfl, SH⟩
        case round =>
          clear SH
          obtain ⟨j, hj, rfl, S⟩ := hrel
          by_cases hlt : j < N
          · have hlt' : (j : Int) < N := by omega
            have wj : IntKind.u64.wrap (j : Int) = (j : Int) := by simp [IntKind.wrap, IntKind.bits, IntKind.signed]; omega
            obtain ⟨rh, hrh⟩ : ∃ rh : Int, ((blkN v n k j / 18446744073709551616 : Nat) : Int) = rh := ⟨_, rfl⟩
            obtain ⟨rl, hrl⟩ : ∃ rl : Int, ((blkN v n k j % 18446744073709551616 : Nat) : Int) = rl := ⟨_, rfl⟩
            have B1 := BK.out j hlt
            rw [hrh, hrl] at B1
            have BH := hide B1
            obtain ⟨sv0, s1, s2, s3, s4, s5, s6⟩ := S.out
            have F2 := s4.1
            simp only [Facts, CellsAt] at F2
            have HA := hide hrh
            have HB := hide hrl
            clear B1 hrh hrl s1 s2 s3 s4 s5 s6
            go_wp2_with fail
            refine (BH.out _).mono ?_
            rintro e w3 ⟨rfl, hb3⟩
            have S3 := hide (S.out.below hb3)
            have bl : Below w3.heap.size w3 (w3.alloc (.cells #[.bool v, .int .u64 rh, .int .u64 rl, .int .i64 k] 28)) := by repeat (first | with_reducible exact Below.refl _ _ | with_reducible refine Below.drew ?_ | with_reducible refine Below.alloc ?_ (by first | omega | (simp <;> omega)) _ | with_reducible refine Below.setCell ?_ (by first | omega | (simp <;> omega)) _)
            obtain ⟨Q, hQ⟩ : ∃ Q, w3.heap.size = Q := ⟨_, rfl⟩
            obtain ⟨sv, s1, s2, s3, s4, s5, s6, s7, s8, s9, s10⟩ := S3.out.below bl
            have QB := Blk.new w3 #[.bool v, .int .u64 rh, .int .u64 rl, .int .i64 k] 28
            have own0 := S3.out
            obtain ⟨w4, hw4⟩ : ∃ w4, w4 = w3.alloc (.cells #[.bool v, .int .u64 rh, .int .u64 rl, .int .i64 k] 28) := ⟨_, rfl⟩
            rw [← hw4] at s1 s2 s3 s4 s5 QB
            rw [hQ] at QB
            have R4 : Kn w [] w4 := Kn.of trivial s4.bel
            obtain ⟨q0, q1, q2, q3, q4, q5, q6, q7, q8⟩ := QB.four
            have y5 := s1.cell 5
            have y9 := s1.frozen 5
            have yl := s1.lt
            have H1 := hide s1
            have H2 := hide s2
            have H3 := hide s3
            have H4 := hide s4
            have H5 := hide s5
            have H6 : Hid (r < base ∧ gu < base ∧ w.heap.size < base ∧ w.heap.size < r ∧ w.heap.size < gu) := ⟨s6, s7, s8, s9, s10⟩
            have N4 := four_new7 w4 (.bool v) (.int .u64 rh) (.int .u64 rl) (.int .i64 k) 28
            have hone : ∀ u ∈ [Value.bool v, .int .u64 rh, .int .u64 rl, .int .i64 k], u.oneCell' = true := by
              intro u hu
              simp at hu
              rcases hu with rfl | rfl | rfl | rfl <;> rfl
            have GR : Hid (∀ (v' : Value) (w5 : World), w5.ownsRow base 28 4 v' (j + 1) (allB v n k j ++ [.bool v, .int .u64 rh, .int .u64 rl, .int .i64 k]) → (w4.alloc (.cells #[.bool v, .int .u64 rh, .int .u64 rl, .int .i64 k] 28)).grownBy w5 sv.ownBlock → (∃ g' cap', v' = .slice (some ⟨g', 0, none⟩) (j + 1) cap') ∧ w5.frozen? ⟨r, 5, none⟩ = false ∧ w5.cell? ⟨r, 5, none⟩ = some sv ∧ r < w5.heap.size ∧ Kn w [] w5 ∧ NSt w base v h l b k r gu n N (j + 1) (w5.setCell ⟨r, 5, none⟩ v')) := fun v' w5 ho hg => by
              have K5 := own_grown7 H1.out H2.out (by decide) hg
              have G5 := own_grown7 H3.out H2.out (by decide) hg
              have B5 : Below base w4 w5 := below_grown (Below.refl _ _) H5.out H2.out hg
              have kk : But [] base w4 w5 := But.of B5 (Nat.le_refl _)
              have h6 := H6.out
              have gr : gu ≠ r := H3.out.ne H1.out (by decide)
              rw [← HA.out, ← HB.out] at ho
              have ho2 : w5.ownsRow base 28 4 v' (j + 1) (allB v n k (j + 1)) := by rw [allB_succ]; exact ho
              have bw : Below w.heap.size w w5 := H4.out.bel.trans (B5.mono (Nat.le_of_lt h6.2.2.1))
              have bl : Below w.heap.size w (w5.setCell ⟨r, 5, none⟩ v') := bw.setCell (p := ⟨r, 5, none⟩) (Nat.le_of_lt h6.2.2.2.1) v'
              refine ⟨?_, K5.frozen 5, K5.cell 5, K5.lt, Kn.of trivial bw, ⟨v', by simpa using K5.put 5 v', own_store7 ho2 (own_ne7 ho2 K5 (by decide)) 5 v', G5.far gr 5 v', Kn.of ⟨(kk.blk H4.out.2.1.1 h6.2.2.1 (by simp)).far (Nat.ne_of_lt h6.2.2.2.1) 5 v', trivial⟩ bl, ?_, h6⟩⟩
              · rcases ho2.2 with ⟨_, c2⟩ | ⟨g', cap', cur, c1, _⟩
                · omega
                · exact ⟨g', cap', c1⟩
              · have := B5.size
                have := H5.out
                simp [World.setCell]
                omega
            clear bl own0 S S3 BH hb3 QB s1 s2 s3 s4 s5 s6 s7 s8 s9 s10 F2 H1 H3 H4 H6
            go_upto_region 15 with fail
            rw [← hw4]
            clear hw4
            try rw [hQ]
            refine wp_region_held_drew (S := (Kn w [])) (by kernel_rfl) ?hS5011 (fun hHeld => ?rest5011)
            case hS5011 => (first | with_reducible exact R4.drew | with_reducible exact (R4.alloc _).drew | exact hHeld | exact hHeld.alloc _ | exact KQ5 | exact Kn.of trivial NF.out.bel)
            refine wtk7 (i := 0) (v := ?v5012) (ga7 rfl) (by kernel_rfl) (fun _ _ _ h => h) ⟨by rfl, ?hy5012⟩ (by assumption) ?rest5012
            case hy5012 => (intro wq hSw; (try simp only [Kn, Facts, CellsAt] at hSw); go_simp; try with_reducible rfl)
            try simp only [Act.put, sa7, sb7, sc7]
            refine wtk7 (i := 1) (v := ?v5013) (ga7 rfl) (by kernel_rfl) (fun _ _ _ h => h) ⟨by rfl, ?hy5013⟩ (by assumption) ?rest5013
            case hy5013 => (intro wq hSw; (try simp only [Kn, Facts, CellsAt] at hSw); go_simp; try with_reducible rfl)
            try simp only [Act.put, sa7, sb7, sc7]
            refine wtk7 (i := 2) (v := ?v5014) (ga7 rfl) (by kernel_rfl) (fun _ _ _ h => h) ⟨by rfl, ?hy5014⟩ (by assumption) ?rest5014
            case hy5014 => (intro wq hSw; (try simp only [Kn, Facts, CellsAt] at hSw); go_simp; try with_reducible rfl)
            try simp only [Act.put, sa7, sb7, sc7]
            refine wtk7 (i := 3) (v := ?v5015) (ga7 rfl) (by kernel_rfl) (fun _ _ _ h => h) ⟨by rfl, ?hy5015⟩ (by assumption) ?rest5015
            case hy5015 => (intro wq hSw; (try simp only [Kn, Facts, CellsAt] at hSw); go_simp; try with_reducible rfl)
            try simp only [Act.put, sa7, sb7, sc7]
            refine wpAnyH_ready (rs := [4, 5]) (by kernel_rfl) (by simp) ?rdy5016
            refine (AllReadyH.cons (ga7 rfl) (fun K hK => ?stp5016_4) (AllReadyH.cons (ga7 rfl) (fun K hK => ?stp5016_5) AllReadyH.nil))
            case stp5016_4 =>
              go_simp
              go_wp2_with fail
              refine hK.out _ _ ?hSn5017 (fun hHeld2 => ?rest5017)
              case hSn5017 => (first | with_reducible exact R4.drew | with_reducible exact (R4.alloc _).drew | exact hHeld | exact hHeld.alloc _ | exact KQ5 | exact Kn.of trivial NF.out.bel)
              clear hK K hHeld
              have hHeld := hHeld2
              clear hHeld2
              try simp only [Act.put, sa7, sb7, sc7]
              refine wpAnyH_ready (rs := [5]) (by kernel_rfl) (by simp) ?rdy5018
              refine (AllReadyH.cons (ga7 rfl) (fun K hK => ?stp5018_5) AllReadyH.nil)
              case stp5018_5 =>
                go_simp
                go_wp2_with fail
                refine hK.out _ _ ?hSn5019 (fun hHeld2 => ?rest5019)
                case hSn5019 => (first | with_reducible exact R4.drew | with_reducible exact (R4.alloc _).drew | exact hHeld | exact hHeld.alloc _ | exact KQ5 | exact Kn.of trivial NF.out.bel)
                clear hK K hHeld
                have hHeld := hHeld2
                clear hHeld2
                try simp only [Act.put, sa7, sb7, sc7]
                refine wpAnyH_ready (rs := [6]) (by kernel_rfl) (by simp) ?rdy5020
                refine (AllReadyH.cons (ga7 rfl) (fun K hK => ?stp5020_6) AllReadyH.nil)
                case stp5020_6 =>
                  go_simp
                  go_wp2_with fail
                  refine hK.out _ _ ?hSn5021 (fun hHeld2 => ?rest5021)
                  case hSn5021 => (first | with_reducible exact R4.drew | with_reducible exact (R4.alloc _).drew | exact hHeld | exact hHeld.alloc _ | exact KQ5 | exact Kn.of trivial NF.out.bel)
                  clear hK K hHeld
                  have hHeld := hHeld2
                  clear hHeld2
                  try simp only [Act.put, sa7, sb7, sc7]
                  refine wpAnyH_ready (rs := [7]) (by kernel_rfl) (by simp) ?rdy5022
                  refine (AllReadyH.cons (ga7 rfl) (fun K hK => ?stp5022_7) AllReadyH.nil)
                  case stp5022_7 =>
                    (refine step_own7 rfl (.tmp 54) (.tmp 56) 72 rfl base 28 i0 (.agg #[.bool false, .int .u64 0, .int .u64 0, .int .i64 0]) 4 32 Tryz.underlying72 hinf hz0 hz1 hz2 rfl (by decide) sv j (allB v n k j) rfl (H2.out.alloc _).drew ⟨w4.heap.size, 0, none⟩ 1 1 [.bool v, .int .u64 rh, .int .u64 rl, .int .i64 k] rfl rfl N4 hone (by unfold maxLen; omega) (by omega) (by have := H5.out; simp; omega) ?_; intro v' w5 hown hgrow; obtain ⟨⟨g', cap', hv'⟩, z9, z5, zl, KQ5, NF0⟩ := GR.out v' w5 hown ⟨hgrow.os, hgrow.tape, hgrow.output, hgrow.size, hgrow.block⟩; subst hv'; have NF := hide NF0; clear NF0 hown hgrow y5 y9)
                    refine hK.out _ _ ?hSn5023 (fun hHeld2 => ?rest5023)
                    case hSn5023 => (first | with_reducible exact R4.drew | with_reducible exact (R4.alloc _).drew | exact hHeld | exact hHeld.alloc _ | exact KQ5 | exact Kn.of trivial NF.out.bel)
                    clear hK K hHeld
                    have hHeld := hHeld2
                    clear hHeld2
                    try simp only [Act.put, sa7, sb7, sc7]
                    refine wtk7 (i := 8) (v := ?v5024) (ga7 rfl) (by kernel_rfl) (fun _ _ _ h => h) ⟨by rfl, ?hy5024⟩ (by assumption) ?rest5024
                    case hy5024 => (intro wq hSw; (try simp only [Kn, Facts, CellsAt] at hSw); go_simp; try with_reducible rfl)
                    try simp only [Act.put, sa7, sb7, sc7]
                    refine wtk7 (i := 9) (v := ?v5025) (ga7 rfl) (by kernel_rfl) (fun _ _ _ h => h) ⟨by rfl, ?hy5025⟩ (by assumption) ?rest5025
                    case hy5025 => (intro wq hSw; (try simp only [Kn, Facts, CellsAt] at hSw); go_simp; try with_reducible rfl)
                    try simp only [Act.put, sa7, sb7, sc7]
                    refine wpAnyH_ready (rs := [10]) (by kernel_rfl) (by simp) ?rdy5026
                    refine (AllReadyH.cons (ga7 rfl) (fun K hK => ?stp5026_10) AllReadyH.nil)
                    case stp5026_10 =>
                      go_simp
                      go_wp2_with fail
                      refine hK.out _ _ ?hSn5027 (fun hHeld2 => ?rest5027)
                      case hSn5027 => (first | with_reducible exact R4.drew | with_reducible exact (R4.alloc _).drew | exact hHeld | exact hHeld.alloc _ | exact KQ5 | exact Kn.of trivial NF.out.bel)
                      clear hK K hHeld
                      have hHeld := hHeld2
                      clear hHeld2
                      try simp only [Act.put, sa7, sb7, sc7]
                      refine wpAnyH_done (by kernel_rfl) ?_ _
                      go_wp2
                      go_roundw
                      case rel => exact ⟨j + 1, by omega, by go_num, NF⟩
                      case measure => (simp [intOf]; omega)
            case stp5016_5 =>
              go_simp
              go_wp2_with fail
              refine hK.out _ _ ?hSn5028 (fun hHeld2 => ?rest5028)
              case hSn5028 => (first | with_reducible exact R4.drew | with_reducible exact (R4.alloc _).drew | exact hHeld | exact hHeld.alloc _ | exact KQ5 | exact Kn.of trivial NF.out.bel)
              clear hK K hHeld
              have hHeld := hHeld2
              clear hHeld2
              try simp only [Act.put, sa7, sb7, sc7]
              refine wpAnyH_ready (rs := [4, 6]) (by kernel_rfl) (by simp) ?rdy5029
              refine (AllReadyH.cons (ga7 rfl) (fun K hK => ?stp5029_4) (AllReadyH.cons (ga7 rfl) (fun K hK => ?stp5029_6) AllReadyH.nil))
              case stp5029_4 =>
                go_simp
                go_wp2_with fail
                refine hK.out _ _ ?hSn5030 (fun hHeld2 => ?rest5030)
                case hSn5030 => (first | with_reducible exact R4.drew | with_reducible exact (R4.alloc _).drew | exact hHeld | exact hHeld.alloc _ | exact KQ5 | exact Kn.of trivial NF.out.bel)
                clear hK K hHeld
                have hHeld := hHeld2
                clear hHeld2
                try simp only [Act.put, sa7, sb7, sc7]
                refine wpAnyH_ready (rs := [6]) (by kernel_rfl) (by simp) ?rdy5031
                refine (AllReadyH.cons (ga7 rfl) (fun K hK => ?stp5031_6) AllReadyH.nil)
                case stp5031_6 =>
                  go_simp
                  go_wp2_with fail
                  refine hK.out _ _ ?hSn5032 (fun hHeld2 => ?rest5032)
                  case hSn5032 => (first | with_reducible exact R4.drew | with_reducible exact (R4.alloc _).drew | exact hHeld | exact hHeld.alloc _ | exact KQ5 | exact Kn.of trivial NF.out.bel)
                  clear hK K hHeld
                  have hHeld := hHeld2
                  clear hHeld2
                  try simp only [Act.put, sa7, sb7, sc7]
                  refine wpAnyH_ready (rs := [7]) (by kernel_rfl) (by simp) ?rdy5033
                  refine (AllReadyH.cons (ga7 rfl) (fun K hK => ?stp5033_7) AllReadyH.nil)
                  case stp5033_7 =>
                    (refine step_own7 rfl (.tmp 54) (.tmp 56) 72 rfl base 28 i0 (.agg #[.bool false, .int .u64 0, .int .u64 0, .int .i64 0]) 4 32 Tryz.underlying72 hinf hz0 hz1 hz2 rfl (by decide) sv j (allB v n k j) rfl (H2.out.alloc _).drew ⟨w4.heap.size, 0, none⟩ 1 1 [.bool v, .int .u64 rh, .int .u64 rl, .int .i64 k] rfl rfl N4 hone (by unfold maxLen; omega) (by omega) (by have := H5.out; simp; omega) ?_; intro v' w5 hown hgrow; obtain ⟨⟨g', cap', hv'⟩, z9, z5, zl, KQ5, NF0⟩ := GR.out v' w5 hown ⟨hgrow.os, hgrow.tape, hgrow.output, hgrow.size, hgrow.block⟩; subst hv'; have NF := hide NF0; clear NF0 hown hgrow y5 y9)
                    refine hK.out _ _ ?hSn5034 (fun hHeld2 => ?rest5034)
                    case hSn5034 => (first | with_reducible exact R4.drew | with_reducible exact (R4.alloc _).drew | exact hHeld | exact hHeld.alloc _ | exact KQ5 | exact Kn.of trivial NF.out.bel)
                    clear hK K hHeld
                    have hHeld := hHeld2
                    clear hHeld2
                    try simp only [Act.put, sa7, sb7, sc7]
                    refine wtk7 (i := 8) (v := ?v5035) (ga7 rfl) (by kernel_rfl) (fun _ _ _ h => h) ⟨by rfl, ?hy5035⟩ (by assumption) ?rest5035
                    case hy5035 => (intro wq hSw; (try simp only [Kn, Facts, CellsAt] at hSw); go_simp; try with_reducible rfl)
                    try simp only [Act.put, sa7, sb7, sc7]
                    refine wtk7 (i := 9) (v := ?v5036) (ga7 rfl) (by kernel_rfl) (fun _ _ _ h => h) ⟨by rfl, ?hy5036⟩ (by assumption) ?rest5036
                    case hy5036 => (intro wq hSw; (try simp only [Kn, Facts, CellsAt] at hSw); go_simp; try with_reducible rfl)
                    try simp only [Act.put, sa7, sb7, sc7]
                    refine wpAnyH_ready (rs := [10]) (by kernel_rfl) (by simp) ?rdy5037
                    refine (AllReadyH.cons (ga7 rfl) (fun K hK => ?stp5037_10) AllReadyH.nil)
                    case stp5037_10 =>
                      go_simp
                      go_wp2_with fail
                      refine hK.out _ _ ?hSn5038 (fun hHeld2 => ?rest5038)
                      case hSn5038 => (first | with_reducible exact R4.drew | with_reducible exact (R4.alloc _).drew | exact hHeld | exact hHeld.alloc _ | exact KQ5 | exact Kn.of trivial NF.out.bel)
                      clear hK K hHeld
                      have hHeld := hHeld2
                      clear hHeld2
                      try simp only [Act.put, sa7, sb7, sc7]
                      refine wpAnyH_done (by kernel_rfl) ?_ _
                      go_wp2
                      go_roundw
                      case rel => exact ⟨j + 1, by omega, by go_num, NF⟩
                      case measure => (simp [intOf]; omega)
              case stp5029_6 =>
                go_simp
                go_wp2_with fail
                refine hK.out _ _ ?hSn5039 (fun hHeld2 => ?rest5039)
                case hSn5039 => (first | with_reducible exact R4.drew | with_reducible exact (R4.alloc _).drew | exact hHeld | exact hHeld.alloc _ | exact KQ5 | exact Kn.of trivial NF.out.bel)
                clear hK K hHeld
                have hHeld := hHeld2
                clear hHeld2
                try simp only [Act.put, sa7, sb7, sc7]
                refine wpAnyH_ready (rs := [4]) (by kernel_rfl) (by simp) ?rdy5040
                refine (AllReadyH.cons (ga7 rfl) (fun K hK => ?stp5040_4) AllReadyH.nil)
                case stp5040_4 =>
                  go_simp
                  go_wp2_with fail
                  refine hK.out _ _ ?hSn5041 (fun hHeld2 => ?rest5041)
                  case hSn5041 => (first | with_reducible exact R4.drew | with_reducible exact (R4.alloc _).drew | exact hHeld | exact hHeld.alloc _ | exact KQ5 | exact Kn.of trivial NF.out.bel)
                  clear hK K hHeld
                  have hHeld := hHeld2
                  clear hHeld2
                  try simp only [Act.put, sa7, sb7, sc7]
                  refine wpAnyH_ready (rs := [7]) (by kernel_rfl) (by simp) ?rdy5042
                  refine (AllReadyH.cons (ga7 rfl) (fun K hK => ?stp5042_7) AllReadyH.nil)
                  case stp5042_7 =>
                    (refine step_own7 rfl (.tmp 54) (.tmp 56) 72 rfl base 28 i0 (.agg #[.bool false, .int .u64 0, .int .u64 0, .int .i64 0]) 4 32 Tryz.underlying72 hinf hz0 hz1 hz2 rfl (by decide) sv j (allB v n k j) rfl (H2.out.alloc _).drew ⟨w4.heap.size, 0, none⟩ 1 1 [.bool v, .int .u64 rh, .int .u64 rl, .int .i64 k] rfl rfl N4 hone (by unfold maxLen; omega) (by omega) (by have := H5.out; simp; omega) ?_; intro v' w5 hown hgrow; obtain ⟨⟨g', cap', hv'⟩, z9, z5, zl, KQ5, NF0⟩ := GR.out v' w5 hown ⟨hgrow.os, hgrow.tape, hgrow.output, hgrow.size, hgrow.block⟩; subst hv'; have NF := hide NF0; clear NF0 hown hgrow y5 y9)
                    refine hK.out _ _ ?hSn5043 (fun hHeld2 => ?rest5043)
                    case hSn5043 => (first | with_reducible exact R4.drew | with_reducible exact (R4.alloc _).drew | exact hHeld | exact hHeld.alloc _ | exact KQ5 | exact Kn.of trivial NF.out.bel)
                    clear hK K hHeld
                    have hHeld := hHeld2
                    clear hHeld2
                    try simp only [Act.put, sa7, sb7, sc7]
                    refine wtk7 (i := 8) (v := ?v5044) (ga7 rfl) (by kernel_rfl) (fun _ _ _ h => h) ⟨by rfl, ?hy5044⟩ (by assumption) ?rest5044
                    case hy5044 => (intro wq hSw; (try simp only [Kn, Facts, CellsAt] at hSw); go_simp; try with_reducible rfl)
                    try simp only [Act.put, sa7, sb7, sc7]
                    refine wtk7 (i := 9) (v := ?v5045) (ga7 rfl) (by kernel_rfl) (fun _ _ _ h => h) ⟨by rfl, ?hy5045⟩ (by assumption) ?rest5045
                    case hy5045 => (intro wq hSw; (try simp only [Kn, Facts, CellsAt] at hSw); go_simp; try with_reducible rfl)
                    try simp only [Act.put, sa7, sb7, sc7]
                    refine wpAnyH_ready (rs := [10]) (by kernel_rfl) (by simp) ?rdy5046
                    refine (AllReadyH.cons (ga7 rfl) (fun K hK => ?stp5046_10) AllReadyH.nil)
                    case stp5046_10 =>
                      go_simp
                      go_wp2_with fail
                      refine hK.out _ _ ?hSn5047 (fun hHeld2 => ?rest5047)
                      case hSn5047 => (first | with_reducible exact R4.drew | with_reducible exact (R4.alloc _).drew | exact hHeld | exact hHeld.alloc _ | exact KQ5 | exact Kn.of trivial NF.out.bel)
                      clear hK K hHeld
                      have hHeld := hHeld2
                      clear hHeld2
                      try simp only [Act.put, sa7, sb7, sc7]
                      refine wpAnyH_done (by kernel_rfl) ?_ _
                      go_wp2
                      go_roundw
                      case rel => exact ⟨j + 1, by omega, by go_num, NF⟩
                      case measure => (simp [intOf]; omega)
          · obtain rfl : j = N := by omega
            have hlt' : ¬ (j : Int) < j := by omega
            obtain ⟨gl, cap, D1, D2⟩ := S.out.done OP
            have D1H := hide D1
            have D2H := hide D2
            clear S D1 D2 BK
            go_wp2
            go_ret2
            first
              | exact ⟨_, gl, cap, gu, rfl, D1H.out, D2H.out⟩
              | exact ⟨r, rfl, gl, cap, gu, D1H.out, D2H.out⟩
              | exact ⟨gl, cap, gu, D1H.out, D2H.out⟩
end Go.Proofs.YtllidkflgjjkfaaGreatDoor
