/-
  Texts Se7, SeP, SeR4, SeT1, SeR2 of the proof.
-/
import Derived.Test.YtllidkflgjjkfaaGreatDoorC24
import Derived.Test.YtllidkflgjjkfaaGreatDoorC31
import Derived.Test.YtllidkflgjjkfaaGreatDoorC42
import Derived.Test.YtllidkflgjjkfaaGreatDoorC39
import Derived.Test.YtllidkflgjjkfaaGreatDoorC0

namespace Go.Proofs.YtllidkflgjjkfaaGreatDoor
open Go.ChangeShapes Go.WideShapes Go.ChangeAt Go.RowKit
set_option linter.unusedVariables false
set_option linter.unusedSimpArgs false

theorem parse7_a : parsePF [49, 48, 46, 48, 46, 48, 46, 48, 47, 56] = some (false, 167772160, 8) := by decide +kernel

theorem parse7_b : parsePF [49, 48, 46, 48, 46, 48, 46, 48, 47, 49, 53] = some (false, 167772160, 15) := by decide +kernel

theorem print7_ex : prP false 167903232 16 = ⟨#[49, 48, 46, 50, 46, 48, 46, 48, 47, 49, 54]⟩ := by decide +kernel

theorem cut7_ex : cutB false 167772160 8 16 = true := by decide +kernel

theorem over7_ex : okP false 167772160 15 = true ∧ overB false 167772160 8 false 167772160 15 = true ∧ spA false 167772160 8 16 167772160 15 = 0 ∧ spZ false 167772160 8 16 167772160 15 = 1 ∧ blkN false 167772160 16 2 = 167903232 := by decide +kernel

theorem next7_ex : nextF (rowF 0 1) 256 0 = some 2 := by decide +kernel

set_option maxRecDepth 100000 in
set_option maxHeartbeats 3200000 in
theorem awake7_c (w : World) (hL : LW w) (hT : TB w) : Calls Tryz.prog 27 #[] w fun e w' => e = .returned (.bool true) ∧ Below w.heap.size w w' := by
  have hz := hL.sz
  have Lx : Hid (∀ W, Below w.heap.size w W → LW W) := fun W hb => hL.of hb hz
  have n0 : IsNum 0 167772160 167772160 := ⟨by omega, by omega, by omega, by omega, rfl⟩
  have n2 : IsNum 0 167903232 167903232 := ⟨by omega, by omega, by omega, by omega, rfl⟩
  have O : SetOf false 0 167772160 8 16 167772160 256 := ⟨n0, cut7_ex, by decide, by decide⟩
  obtain ⟨q1, q2, q3, q4, q5⟩ := over7_ex
  have P1 : Hid (∀ w', LW w' → Calls Tryz.prog 51 #[.string ⟨#[49, 48, 46, 48, 46, 48, 46, 48, 47, 56]⟩] w' fun e w1 => e = .returned (.tuple #[pv false 0 167772160 8, .int .i64 0]) ∧ Below w'.heap.size w' w1) := fun w' h => pparse_is _ (by decide) (Or.inl ⟨167772160, 8, parse7_a, n0, rfl, rfl⟩) w' h
  have P2 : Hid (∀ w', LW w' → Calls Tryz.prog 51 #[.string ⟨#[49, 48, 46, 48, 46, 48, 46, 48, 47, 49, 53]⟩] w' fun e w1 => e = .returned (.tuple #[pv false 0 167772160 15, .int .i64 0]) ∧ Below w'.heap.size w' w1) := fun w' h => pparse_is _ (by decide) (Or.inl ⟨167772160, 15, parse7_b, n0, rfl, rfl⟩) w' h
  have NW := hide (fun w' => snew_c O w')
  have hf : setO false 167772160 16 256 false 167772160 15 true (fun _ => false) = rowF 0 1 := by
    rw [setO_row cut7_ex (by decide) q1 q2 n0.lt n0.lt, q3, q4]
    exact funext (rowF_is 0 1)
  have hC : cntO (fun _ => false) (rowF 0 1) = 2 := by
    have := cnt_fill (A := 0) (B := 1) (by decide) (by decide)
    rw [funext (rowF_is 0 1)] at this
    exact this
  have hE : qE false 167772160 8 false 167772160 15 = 0 := by unfold qE; rw [q1, q2]; rfl
  have OC := hide (fun x a g L W (S : HSt w L false 0 167772160 8 16 x a g 256 (fun _ => false) 0 W) => occ_h O n0 hf hC hE S)
  have NX := hide (fun x a g L W (S : HSt w L false 0 167772160 8 16 x a g 256 (rowF 0 1) 0 W) => next_h O hT next7_ex (n2.cast q5.symm) S)
  have T1 : Hid (∀ w', LW w' → Calls Tryz.prog 73 #[pv false 0 167903232 16] w' fun e w1 => e = .returned (.string ⟨#[49, 48, 46, 50, 46, 48, 46, 48, 47, 49, 54]⟩) ∧ Below w'.heap.size w' w1) := fun w' h => print7_ex ▸ pprint_c n2 w' h
  clear n0 n2 hL hT O q1 q2 q3 q4 q5 hf hC hE
  go_enter Tryz.func27, Tryz.ntmps27
  go_wp2_with fail
  refine (P1.out _ (Lx.out _ (by repeat (first | with_reducible exact Below.refl _ _ | with_reducible refine Below.drew ?_ | with_reducible refine Below.alloc ?_ (by first | omega | (simp <;> omega)) _ | with_reducible refine Below.setCell ?_ (by first | omega | (simp <;> omega)) _)))).mono ?_
  rintro e w1 ⟨rfl, hb⟩
  have K := hide ((Kn.of (w := w) (W := w1) (L := []) trivial hb).push (b := w1.heap.size) (cs := [.bool false, .int .u64 0, .int .u64 167772160, .int .i64 8]) (t := 28) rfl)
  have F := K.out.1
  simp only [Facts, CellsAt] at F
  clear P1 hb
  go_wp2_with fail
  refine (P2.out _ (Lx.out _ K.out.bel)).mono ?_
  rintro e w2 ⟨rfl, hb⟩
  have K2 := hide ((K.out.below hb).push (b := w2.heap.size) (cs := [.bool false, .int .u64 0, .int .u64 167772160, .int .i64 15]) (t := 28) rfl)
  have F2 := K2.out.1
  simp only [Facts, CellsAt] at F2
  clear P2 hb K F
  go_wp2_with fail
  refine (NW.out _).mono ?_
  rintro e w3 ⟨x, a, g, rfl, hP, hb, hx, hg, ha⟩
  have S3 : Hid (HSt w [(w2.heap.size, [.bool false, .int .u64 0, .int .u64 167772160, .int .i64 15], 28), (w1.heap.size, [.bool false, .int .u64 0, .int .u64 167772160, .int .i64 8], 28)] false 0 167772160 8 16 x a g 256 (fun _ => false) 0 w3) := by
    have l1 := K2.out.lts
    have l2 := K2.out.bel.size
    simp only [Lts] at l1
    exact ⟨K2.out.below hb, hP, ⟨by show w2.heap.size ≠ g; omega, by show w1.heap.size ≠ g; omega, trivial⟩, ⟨by show w2.heap.size ≠ x; omega, by show w1.heap.size ≠ x; omega, trivial⟩, by omega, by omega⟩
  have F3 := S3.out.kn.1
  simp only [Facts, CellsAt] at F3
  clear NW hP hb hx hg ha K2 F2
  go_wp2_with fail
  refine (OC.out _ _ _ _ _ S3.out).mono ?_
  rintro e w4 ⟨rfl, hS⟩
  have S4 := hide hS
  have F4 := S4.out.kn.1
  simp only [Facts, CellsAt] at F4
  clear OC hS S3 F3
  go_wp2_with fail
  refine (NX.out _ _ _ _ _ S4.out).mono ?_
  rintro e w5 ⟨rfl, hS⟩
  have S5 := hide (hS.push [.bool false, .int .u64 0, .int .u64 167903232, .int .i64 16] 28)
  have F5 := S5.out.kn.1
  simp only [Facts, CellsAt] at F5
  clear NX hS S4 F4
  go_wp2_with fail
  refine (T1.out _ (Lx.out _ S5.out.kn.bel)).mono ?_
  rintro e w6 ⟨rfl, hb⟩
  have B6 := (S5.out.kn.below hb).bel
  clear hb T1 S5 F5
  go_wp2
  go_ret
  exact ⟨by first | rfl | simp, B6⟩
end Go.Proofs.YtllidkflgjjkfaaGreatDoor

namespace Go.Proofs.YtllidkflgjjkfaaGreatDoor
open Go.ChangeShapes Go.WideShapes Go.ChangeAt Go.RowKit
set_option linter.unusedVariables false
set_option linter.unusedSimpArgs false

/-- Is a set one of at most 256 blocks? -/
def smB (v : Bool) (n : Nat) (b k : Int) : Bool := cutB v n b k && decide (k - b ≤ 8)

set_option maxHeartbeats 800000 in
theorem small7_no {v : Bool} {h l b k : Int} {n : Nat} (hp : IsNum h l n) (hc : cutB v n b k = false) (w : World) :
    Calls Tryz.prog 29 #[pv v h l b, .int .i64 k] w fun e w' => e = .returned (.bool false) ∧ Below w.heap.size w w' := by
  have K := pfx_start7 w v h l b
  have CU := hide (fun w' => rcuts_c (v := v) (b := b) (k := k) hp w')
  rw [hc] at CU
  clear hp hc
  go_enter Tryz.func29, Tryz.ntmps29
  go_wp2_with fail
  refine (CU.out _).mono ?_
  rintro e w1 ⟨rfl, hb⟩
  have B := (K.below hb).bel
  clear CU hb K
  go_wp2
  go_ret
  exact ⟨by first | rfl | simp, B⟩

set_option maxHeartbeats 800000 in
theorem small7_yes {v : Bool} {h l b k : Int} {n : Nat} (hp : IsNum h l n) (hc : cutB v n b k = true) (w : World) :
    Calls Tryz.prog 29 #[pv v h l b, .int .i64 k] w fun e w' => e = .returned (.bool (decide (k - b ≤ 8))) ∧ Below w.heap.size w w' := by
  have K := pfx_start7 w v h l b
  have CU := hide (fun w' => rcuts_c (v := v) (b := b) (k := k) hp w')
  rw [hc] at CU
  obtain ⟨_, b0, b1, b2, _⟩ := cutB_parts hc
  have hW2 := width_le v
  have wr : IntKind.i64.wrap (k - b) = k - b := by simp [IntKind.wrap, IntKind.bits, IntKind.signed]; omega
  clear hp hc b0 b1 b2 hW2
  go_enter Tryz.func29, Tryz.ntmps29
  go_wp2_with fail
  refine (CU.out _).mono ?_
  rintro e w1 ⟨rfl, hb⟩
  have K1 := K.below hb
  have F := K1.1
  simp only [Facts, CellsAt] at F
  have B := hide K1.bel
  clear CU hb K K1
  go_wp2
  go_ret
  exact ⟨by first | rfl | simp [wr], B.out⟩

theorem small7_c {v : Bool} {h l b k : Int} {n : Nat} (hp : IsNum h l n) (w : World) :
    Calls Tryz.prog 29 #[pv v h l b, .int .i64 k] w fun e w' => e = .returned (.bool (smB v n b k)) ∧ Below w.heap.size w w' := by
  unfold smB
  cases hc : cutB v n b k
  · exact small7_no hp hc w
  · exact small7_yes hp hc w

theorem smB_of {v : Bool} {h l b k : Int} {n : Nat} (hp : IsNum h l n) (hs : smB v n b k = true) : SetOf v h l b k n (2 ^ (k - b).toNat) ∧ 2 ^ (k - b).toNat ≤ 256 := by
  unfold smB at hs
  rw [Bool.and_eq_true, decide_eq_true_eq] at hs
  have le := Nat.pow_le_pow_right (n := 2) (by decide) (show (k - b).toNat ≤ 8 by omega)
  rw [show (2 : Nat) ^ 8 = 256 by decide] at le
  exact ⟨⟨hp, hs.1, rfl, by omega⟩, le⟩

theorem cell_in7 {W : World} {b o : Nat} {v : Value} (h : W.cell? ⟨b, o, none⟩ = some v) : b < W.heap.size := by
  apply Classical.byContradiction
  intro c
  simp only [World.cell?] at h
  rw [Array.getElem?_eq_none (by omega)] at h
  cases h

/-- The cells of blocks. -/
def cellsQ (v : Bool) (n : Nat) (k : Int) : List Nat → List Value
  | [] => []
  | p :: r => .bool v :: .int .u64 ((blkN v n k p / 18446744073709551616 : Nat) : Int) :: .int .u64 ((blkN v n k p % 18446744073709551616 : Nat) : Int) :: .int .i64 k :: cellsQ v n k r

theorem cellsQ_add (v : Bool) (n : Nat) (k : Int) : ∀ (l : List Nat) (p : Nat), cellsQ v n k (l ++ [p]) = cellsQ v n k l ++ [.bool v, .int .u64 ((blkN v n k p / 18446744073709551616 : Nat) : Int), .int .u64 ((blkN v n k p % 18446744073709551616 : Nat) : Int), .int .i64 k]
  | [], p => rfl
  | q :: r, p => by
    show _ :: _ :: _ :: _ :: cellsQ v n k (r ++ [p]) = _
    rw [cellsQ_add v n k r p]
    rfl

theorem cellsQ_at (v : Bool) (n : Nat) (k : Int) : ∀ (l : List Nat) (j : Nat) (h : j < l.length), (cellsQ v n k l)[j * 4]? = some (.bool v) ∧ (cellsQ v n k l)[j * 4 + 1]? = some (.int .u64 ((blkN v n k l[j] / 18446744073709551616 : Nat) : Int)) ∧ (cellsQ v n k l)[j * 4 + 2]? = some (.int .u64 ((blkN v n k l[j] % 18446744073709551616 : Nat) : Int)) ∧ (cellsQ v n k l)[j * 4 + 3]? = some (.int .i64 k)
  | [], j, h => absurd h (by simp)
  | p :: r, 0, h => ⟨rfl, rfl, rfl, rfl⟩
  | p :: r, j + 1, h => by
    obtain ⟨h0, h1, h2, h3⟩ := cellsQ_at v n k r j (by simpa using h)
    have e : (j + 1) * 4 = j * 4 + 4 := by omega
    rw [e]
    exact ⟨h0, h1, h2, h3⟩

/-- A cell of the row. -/
theorem row_at7 {W : World} {base q n : Nat} {k : Int} {v : Bool} {u : Value} {gs : List Nat} (h : W.ownsRow base 28 4 u q (cellsQ v n k gs)) (hk : q = gs.length) {j : Nat} (hj : j < gs.length) : ∃ B cap, u = .slice (some ⟨B, 0, none⟩) q cap ∧ W.cell? ⟨B, j * 4, none⟩ = some (.bool v) ∧ W.cell? ⟨B, j * 4 + 1, none⟩ = some (.int .u64 ((blkN v n k gs[j] / 18446744073709551616 : Nat) : Int)) ∧ W.cell? ⟨B, j * 4 + 2, none⟩ = some (.int .u64 ((blkN v n k gs[j] % 18446744073709551616 : Nat) : Int)) ∧ W.cell? ⟨B, j * 4 + 3, none⟩ = some (.int .i64 k) := by
  obtain ⟨h0, h1, h2, h3⟩ := cellsQ_at v n k gs j hj
  have ad : ∀ B i : Nat, (⟨B, 0, none⟩ : Addr).add i = ⟨B, i, none⟩ := fun B i => by
    unfold Addr.add
    split <;> simp_all
  rcases h.2 with ⟨_, q⟩ | ⟨B, cap, cur, q, _⟩
  · omega
  · refine ⟨B, cap, q, ?_, ?_, ?_, ?_⟩
    · have := h.cells (g := B) (by rw [q]; rfl) _ _ h0
      rwa [ad] at this
    · have := h.cells (g := B) (by rw [q]; rfl) _ _ h1
      rwa [ad] at this
    · have := h.cells (g := B) (by rw [q]; rfl) _ _ h2
      rwa [ad] at this
    · have := h.cells (g := B) (by rw [q]; rfl) _ _ h3
      rwa [ad] at this
end Go.Proofs.YtllidkflgjjkfaaGreatDoor

namespace Go.Proofs.YtllidkflgjjkfaaGreatDoor
open Go.ChangeShapes Go.WideShapes Go.ChangeAt Go.RowKit
set_option linter.unusedVariables false
set_option linter.unusedSimpArgs false

set_option maxRecDepth 100000 in
set_option maxHeartbeats 3200000 in
theorem rhas7_c {v u : Bool} {h l b k qh ql cq : Int} {r gl cap gu n m N c : Nat} {f : Nat → Bool} {T : Bool} (O : SetOf v h l b k n N) (hq : IsNum qh ql m) (hB : T = true ↔ ∃ p, f p = true ∧ ovP v n k N u m cq p = true) (w : World) (R : RAt w v h l b k r gl cap gu n N f c) :
    Calls Tryz.prog 35 #[.pointer (some ⟨r, 0, none⟩), pv u qh ql cq] w fun e w' => e = .returned (.bool T) ∧ But [gu] w.heap.size w w' ∧ RAt w' v h l b k r gl cap gu n N f c ∧ Below w.heap.size w w' := by
  have bl : Below w.heap.size w (w.alloc (.cells #[.bool u, .int .u64 qh, .int .u64 ql, .int .i64 cq] 28)) := by repeat (first | with_reducible exact Below.refl _ _ | with_reducible refine Below.drew ?_ | with_reducible refine Below.alloc ?_ (by first | omega | (simp <;> omega)) _ | with_reducible refine Below.setCell ?_ (by first | omega | (simp <;> omega)) _)
  have Z0 : Hid (RZ v h l b k r gl cap gu n N f c w.heap.size u qh ql cq w (w.alloc (.cells #[.bool u, .int .u64 qh, .int .u64 ql, .int .i64 cq] 28))) := ⟨R.below bl, Blk.new _ _ _, But.of bl (Nat.le_refl _)⟩
  have B0 := hide bl
  have OV := hide (fun (i : Nat) (hi : i < N) (rh rl : Int) (hrh : ((blkN v n k i / 18446744073709551616 : Nat) : Int) = rh) (hrl : ((blkN v n k i % 18446744073709551616 : Nat) : Int) = rl) w' => rover_c (v := v) (u := u) (b := k) (c := cq) (hrl ▸ hrh ▸ num_parts7 (blk_ok O.cut O.num.lt (by rw [O.len]; exact hi)).2) hq w')
  have hN := O.small
  have FO : Hid (∀ i, i < N → overB v (blkN v n k i) k u m cq = ovP v n k N u m cq i) := fun i hi => by unfold ovP; rw [decide_eq_true hi, Bool.true_and]
  have FN : Hid (∀ i, ovP v n k N u m cq i = true → i < N) := fun i h => by unfold ovP at h; rw [Bool.and_eq_true] at h; exact of_decide_eq_true h.1
  obtain ⟨o, ho⟩ : ∃ o, ovP v n k N u m cq = o := ⟨_, rfl⟩
  rw [ho] at FO FN hB
  have HB := hide hB
  have x5 := R.hd.cell 5
  have xl := R.hd.lt
  clear O hq R bl ho hB
  go_enter Tryz.func35, Tryz.ntmps35
  go_wp2_with fail
  go_loopw [5] (fun iv wr => ∃ i : Nat, i ≤ N ∧ iv = .int .i64 i ∧ Hid (∀ p, p < i → ¬ (f p = true ∧ o p = true)) ∧ Hid (RZ v h l b k r gl cap gu n N f c w.heap.size u qh ql cq w wr) ∧ Hid (Below w.heap.size w wr)) (fun iv _ => N - (intOf iv).toNat)
  case atStart => exact ⟨0, by omega, rfl, fun p hp => absurd hp (by omega), Z0, B0⟩
  case round =>
    clear Z0 B0 x5
    obtain ⟨i, hi, rfl, G, Z, B⟩ := hrel
    have y5 := Z.out.1.hd.cell 5
    have yl := Z.out.1.hd.lt
    by_cases hlt : i < N
    · have hlt' : (i : Int) < N := by omega
      obtain ⟨rh, hrh⟩ : ∃ rh : Int, ((blkN v n k i / 18446744073709551616 : Nat) : Int) = rh := ⟨_, rfl⟩
      obtain ⟨rl, hrl⟩ : ∃ rl : Int, ((blkN v n k i % 18446744073709551616 : Nat) : Int) = rl := ⟨_, rfl⟩
      have O1 := hide (OV.out i hlt rh rl hrh hrl)
      rw [FO.out i hlt] at O1
      cases hfi : f i
      · have X0 := RX.of Z.out hlt hfi hrh hrl
        have G2 : Hid (∀ p, p < i + 1 → ¬ (f p = true ∧ o p = true)) := fun p hp => by
          by_cases e : p = i
          · subst e; rw [hfi]; exact fun c => by cases c.1
          · exact G.out p (by omega)
        clear hrh hrl hfi G Z O1
        go_wp2_with fail
        refine wp_region_held_drew (S := (RX r v h l b k gl cap gu N c i rh rl w.heap.size u qh ql cq false (RZ v h l b k r gl cap gu n N f c w.heap.size u qh ql cq w))) (by kernel_rfl) ?hS100 (fun hHeld => ?rest100)
        case hS100 => (first | with_reducible exact X0.drew)
        refine wtk7 (i := 0) (v := ?v101) (ga7 rfl) (by kernel_rfl) (fun _ _ _ h => h) ⟨by rfl, ?hy101⟩ (by assumption) ?rest101
        case hy101 => (intro wq hSw; (try simp only [Two, RX] at hSw); go_simp; try with_reducible rfl)
        try simp only [Act.put, sa7, sb7, sc7]
        refine wtk7 (i := 1) (v := ?v102) (ga7 rfl) (by kernel_rfl) (fun _ _ _ h => h) ⟨by rfl, ?hy102⟩ (by assumption) ?rest102
        case hy102 => (intro wq hSw; (try simp only [Two, RX] at hSw); go_simp; try with_reducible rfl)
        try simp only [Act.put, sa7, sb7, sc7]
        refine wtk7 (i := 2) (v := ?v103) (ga7 rfl) (by kernel_rfl) (fun _ _ _ h => h) ⟨by rfl, ?hy103⟩ (by assumption) ?rest103
        case hy103 => (intro wq hSw; (try simp only [Two, RX] at hSw); go_simp; try with_reducible rfl)
        try simp only [Act.put, sa7, sb7, sc7]
        refine wtk7 (i := 3) (v := ?v104) (ga7 rfl) (by kernel_rfl) (fun _ _ _ h => h) ⟨by rfl, ?hy104⟩ (by assumption) ?rest104
        case hy104 => (intro wq hSw; (try simp only [Two, RX] at hSw); go_simp; try with_reducible rfl)
        try simp only [Act.put, sa7, sb7, sc7]
        refine wtk7 (i := 4) (v := ?v105) (ga7 rfl) (by kernel_rfl) (fun _ _ _ h => h) ⟨by rfl, ?hy105⟩ (by assumption) ?rest105
        case hy105 => (intro wq hSw; (try simp only [Two, RX] at hSw); go_simp; try with_reducible rfl)
        try simp only [Act.put, sa7, sb7, sc7]
        refine wtk7 (i := 5) (v := ?v106) (ga7 rfl) (by kernel_rfl) (fun _ _ _ h => h) ⟨by rfl, ?hy106⟩ (by assumption) ?rest106
        case hy106 => (intro wq hSw; (try simp only [Two, RX] at hSw); go_simp; try with_reducible rfl)
        try simp only [Act.put, sa7, sb7, sc7]
        refine wtk7 (i := 6) (v := ?v107) (ga7 rfl) (by kernel_rfl) (fun _ _ _ h => h) ⟨by rfl, ?hy107⟩ (by assumption) ?rest107
        case hy107 => (intro wq hSw; (try simp only [Two, RX] at hSw); go_simp; try with_reducible rfl)
        try simp only [Act.put, sa7, sb7, sc7]
        refine wtk7 (i := 7) (v := ?v108) (ga7 rfl) (by kernel_rfl) (fun _ _ _ h => h) ⟨by rfl, ?hy108⟩ (by assumption) ?rest108
        case hy108 => (intro wq hSw; (try simp only [Two, RX] at hSw); go_simp; try with_reducible rfl)
        try simp only [Act.put, sa7, sb7, sc7]
        refine wpAnyH_take (i := 8) (oi := _) (v := undef) (ga7 rfl) (by kernel_rfl) (by kernel_rfl) (by kernel_rfl) (fun _ _ _ h => h) (Or.inr ⟨by rfl, rfl⟩) (by assumption) ?rest109
        try simp only [Act.put, sa7, sb7, sc7]
        refine wpAnyH_take (i := 9) (oi := _) (v := undef) (ga7 rfl) (by kernel_rfl) (by kernel_rfl) (by kernel_rfl) (fun _ _ _ h => h) (Or.inr ⟨by rfl, rfl⟩) (by assumption) ?rest110
        try simp only [Act.put, sa7, sb7, sc7]
        refine wpAnyH_take (i := 10) (oi := _) (v := undef) (ga7 rfl) (by kernel_rfl) (by kernel_rfl) (by kernel_rfl) (fun _ _ _ h => h) (Or.inr ⟨by rfl, rfl⟩) (by assumption) ?rest111
        try simp only [Act.put, sa7, sb7, sc7]
        refine wpAnyH_take (i := 11) (oi := _) (v := undef) (ga7 rfl) (by kernel_rfl) (by kernel_rfl) (by kernel_rfl) (fun _ _ _ h => h) (Or.inr ⟨by rfl, rfl⟩) (by assumption) ?rest112
        try simp only [Act.put, sa7, sb7, sc7]
        refine wpAnyH_take (i := 12) (oi := _) (v := undef) (ga7 rfl) (by kernel_rfl) (by kernel_rfl) (by kernel_rfl) (fun _ _ _ h => h) (Or.inr ⟨by rfl, rfl⟩) (by assumption) ?rest113
        try simp only [Act.put, sa7, sb7, sc7]
        refine wpAnyH_take (i := 13) (oi := _) (v := undef) (ga7 rfl) (by kernel_rfl) (by kernel_rfl) (by kernel_rfl) (fun _ _ _ h => h) (Or.inr ⟨by rfl, rfl⟩) (by assumption) ?rest114
        try simp only [Act.put, sa7, sb7, sc7]
        refine wpAnyH_take (i := 14) (oi := _) (v := undef) (ga7 rfl) (by kernel_rfl) (by kernel_rfl) (by kernel_rfl) (fun _ _ _ h => h) (Or.inr ⟨by rfl, rfl⟩) (by assumption) ?rest115
        try simp only [Act.put, sa7, sb7, sc7]
        refine wpAnyH_take (i := 15) (oi := _) (v := undef) (ga7 rfl) (by kernel_rfl) (by kernel_rfl) (by kernel_rfl) (fun _ _ _ h => h) (Or.inr ⟨by rfl, rfl⟩) (by assumption) ?rest116
        try simp only [Act.put, sa7, sb7, sc7]
        refine wpAnyH_take (i := 16) (oi := _) (v := undef) (ga7 rfl) (by kernel_rfl) (by kernel_rfl) (by kernel_rfl) (fun _ _ _ h => h) (Or.inr ⟨by rfl, rfl⟩) (by assumption) ?rest117
        try simp only [Act.put, sa7, sb7, sc7]
        refine wtk7 (i := 17) (v := ?v118) (ga7 rfl) (by kernel_rfl) (fun _ _ _ h => h) ⟨by rfl, ?hy118⟩ (by assumption) ?rest118
        case hy118 => (intro wq hSw; (try simp only [Two, RX] at hSw); go_simp; try with_reducible rfl)
        try simp only [Act.put, sa7, sb7, sc7]
        refine wpAnyH_done (by kernel_rfl) ?fin100 _
        have Z2 := hide hHeld.2.out
        have B2 := hide B.out.drew
        clear hHeld X0 B
        go_wp2
        go_roundw
        case rel => exact ⟨i + 1, by omega, by go_num, G2, Z2, B2⟩
        case measure => simp [intOf]; omega
      · cases hoi : o i
        · rw [hoi] at O1
          have X0 := RX.of Z.out hlt hfi hrh hrl
          have G2 : Hid (∀ p, p < i + 1 → ¬ (f p = true ∧ o p = true)) := fun p hp => by
            by_cases e : p = i
            · subst e; rw [hoi]; exact fun c => by cases c.2
            · exact G.out p (by omega)
          clear hrh hrl hfi hoi G Z
          go_wp2_with fail
          refine wp_region_held_drew (S := (RX r v h l b k gl cap gu N c i rh rl w.heap.size u qh ql cq true (RZ v h l b k r gl cap gu n N f c w.heap.size u qh ql cq w))) (by kernel_rfl) ?hS200 (fun hHeld => ?rest200)
          case hS200 => (first | with_reducible exact X0.drew | with_reducible exact hHeld.below hb4 (fun z => z.below hb4))
          refine wtk7 (i := 0) (v := ?v201) (ga7 rfl) (by kernel_rfl) (fun _ _ _ h => h) ⟨by rfl, ?hy201⟩ (by assumption) ?rest201
          case hy201 => (intro wq hSw; (try simp only [Two, RX] at hSw); go_simp; try with_reducible rfl)
          try simp only [Act.put, sa7, sb7, sc7]
          refine wtk7 (i := 1) (v := ?v202) (ga7 rfl) (by kernel_rfl) (fun _ _ _ h => h) ⟨by rfl, ?hy202⟩ (by assumption) ?rest202
          case hy202 => (intro wq hSw; (try simp only [Two, RX] at hSw); go_simp; try with_reducible rfl)
          try simp only [Act.put, sa7, sb7, sc7]
          refine wtk7 (i := 2) (v := ?v203) (ga7 rfl) (by kernel_rfl) (fun _ _ _ h => h) ⟨by rfl, ?hy203⟩ (by assumption) ?rest203
          case hy203 => (intro wq hSw; (try simp only [Two, RX] at hSw); go_simp; try with_reducible rfl)
          try simp only [Act.put, sa7, sb7, sc7]
          refine wtk7 (i := 3) (v := ?v204) (ga7 rfl) (by kernel_rfl) (fun _ _ _ h => h) ⟨by rfl, ?hy204⟩ (by assumption) ?rest204
          case hy204 => (intro wq hSw; (try simp only [Two, RX] at hSw); go_simp; try with_reducible rfl)
          try simp only [Act.put, sa7, sb7, sc7]
          refine wtk7 (i := 4) (v := ?v205) (ga7 rfl) (by kernel_rfl) (fun _ _ _ h => h) ⟨by rfl, ?hy205⟩ (by assumption) ?rest205
          case hy205 => (intro wq hSw; (try simp only [Two, RX] at hSw); go_simp; try with_reducible rfl)
          try simp only [Act.put, sa7, sb7, sc7]
          refine wtk7 (i := 5) (v := ?v206) (ga7 rfl) (by kernel_rfl) (fun _ _ _ h => h) ⟨by rfl, ?hy206⟩ (by assumption) ?rest206
          case hy206 => (intro wq hSw; (try simp only [Two, RX] at hSw); go_simp; try with_reducible rfl)
          try simp only [Act.put, sa7, sb7, sc7]
          refine wtk7 (i := 6) (v := ?v207) (ga7 rfl) (by kernel_rfl) (fun _ _ _ h => h) ⟨by rfl, ?hy207⟩ (by assumption) ?rest207
          case hy207 => (intro wq hSw; (try simp only [Two, RX] at hSw); go_simp; try with_reducible rfl)
          try simp only [Act.put, sa7, sb7, sc7]
          refine wtk7 (i := 7) (v := ?v208) (ga7 rfl) (by kernel_rfl) (fun _ _ _ h => h) ⟨by rfl, ?hy208⟩ (by assumption) ?rest208
          case hy208 => (intro wq hSw; (try simp only [Two, RX] at hSw); go_simp; try with_reducible rfl)
          try simp only [Act.put, sa7, sb7, sc7]
          refine wtk7 (i := 8) (v := ?v209) (ga7 rfl) (by kernel_rfl) (fun _ _ _ h => h) ⟨by rfl, ?hy209⟩ (by assumption) ?rest209
          case hy209 => (intro wq hSw; (try simp only [Two, RX] at hSw); go_simp; try with_reducible rfl)
          try simp only [Act.put, sa7, sb7, sc7]
          refine wtk7 (i := 9) (v := ?v210) (ga7 rfl) (by kernel_rfl) (fun _ _ _ h => h) ⟨by rfl, ?hy210⟩ (by assumption) ?rest210
          case hy210 => (intro wq hSw; (try simp only [Two, RX] at hSw); go_simp; try with_reducible rfl)
          try simp only [Act.put, sa7, sb7, sc7]
          refine wtk7 (i := 10) (v := ?v211) (ga7 rfl) (by kernel_rfl) (fun _ _ _ h => h) ⟨by rfl, ?hy211⟩ (by assumption) ?rest211
          case hy211 => (intro wq hSw; (try simp only [Two, RX] at hSw); go_simp; try with_reducible rfl)
          try simp only [Act.put, sa7, sb7, sc7]
          refine wtk7 (i := 11) (v := ?v212) (ga7 rfl) (by kernel_rfl) (fun _ _ _ h => h) ⟨by rfl, ?hy212⟩ (by assumption) ?rest212
          case hy212 => (intro wq hSw; (try simp only [Two, RX] at hSw); go_simp; try with_reducible rfl)
          try simp only [Act.put, sa7, sb7, sc7]
          refine wtk7 (i := 12) (v := ?v213) (ga7 rfl) (by kernel_rfl) (fun _ _ _ h => h) ⟨by rfl, ?hy213⟩ (by assumption) ?rest213
          case hy213 => (intro wq hSw; (try simp only [Two, RX] at hSw); go_simp; try with_reducible rfl)
          try simp only [Act.put, sa7, sb7, sc7]
          refine wtk7 (i := 13) (v := ?v214) (ga7 rfl) (by kernel_rfl) (fun _ _ _ h => h) ⟨by rfl, ?hy214⟩ (by assumption) ?rest214
          case hy214 => (intro wq hSw; (try simp only [Two, RX] at hSw); go_simp; try with_reducible rfl)
          try simp only [Act.put, sa7, sb7, sc7]
          refine wtk7 (i := 14) (v := ?v215) (ga7 rfl) (by kernel_rfl) (fun _ _ _ h => h) ⟨by rfl, ?hy215⟩ (by assumption) ?rest215
          case hy215 => (intro wq hSw; (try simp only [Two, RX] at hSw); go_simp; try with_reducible rfl)
          try simp only [Act.put, sa7, sb7, sc7]
          refine wtk7 (i := 15) (v := ?v216) (ga7 rfl) (by kernel_rfl) (fun _ _ _ h => h) ⟨by rfl, ?hy216⟩ (by assumption) ?rest216
          case hy216 => (intro wq hSw; (try simp only [Two, RX] at hSw); go_simp; try with_reducible rfl)
          try simp only [Act.put, sa7, sb7, sc7]
          refine wpAnyH_ready (rs := [16]) (by kernel_rfl) (by simp) ?rdy217
          refine AllReadyH.cons (ga7 rfl) (fun K hK => ?stp217) AllReadyH.nil
          go_simp
          go_wp2_with fail
          (refine (O1.out _).mono ?_; rintro e w4 ⟨rfl, hb4⟩)
          go_wp2_with fail
          refine hK.out _ _ ?hSn217 (fun hHeld2 => ?rest217)
          case hSn217 => (first | with_reducible exact X0.drew | with_reducible exact hHeld.below hb4 (fun z => z.below hb4))
          clear hK K hHeld
          have hHeld := hHeld2
          clear hHeld2
          try simp only [Act.put, sa7, sb7, sc7]
          refine wtk7 (i := 17) (v := ?v218) (ga7 rfl) (by kernel_rfl) (fun _ _ _ h => h) ⟨by rfl, ?hy218⟩ (by assumption) ?rest218
          case hy218 => (intro wq hSw; (try simp only [Two, RX] at hSw); go_simp; try with_reducible rfl)
          try simp only [Act.put, sa7, sb7, sc7]
          refine wpAnyH_done (by kernel_rfl) ?fin200 _
          have Z2 := hide hHeld.2.out
          have B2 : Hid (Below w.heap.size w w4) := B.out.drew.trans (hb4.mono B.out.size)
          clear hHeld X0 O1 hb4 B
          go_wp2
          go_roundw
          case rel => exact ⟨i + 1, by omega, by go_num, G2, Z2, B2⟩
          case measure => simp [intOf]; omega
        · rw [hoi] at O1
          have X0 := RX.of Z.out hlt hfi hrh hrl
          have t : T = true := HB.out.2 ⟨i, hfi, hoi⟩
          subst t
          clear hrh hrl hfi hoi G Z HB
          go_wp2_with fail
          refine wp_region_held_drew (S := (RX r v h l b k gl cap gu N c i rh rl w.heap.size u qh ql cq true (RZ v h l b k r gl cap gu n N f c w.heap.size u qh ql cq w))) (by kernel_rfl) ?hS300 (fun hHeld => ?rest300)
          case hS300 => (first | with_reducible exact X0.drew | with_reducible exact hHeld.below hb4 (fun z => z.below hb4))
          refine wtk7 (i := 0) (v := ?v301) (ga7 rfl) (by kernel_rfl) (fun _ _ _ h => h) ⟨by rfl, ?hy301⟩ (by assumption) ?rest301
          case hy301 => (intro wq hSw; (try simp only [Two, RX] at hSw); go_simp; try with_reducible rfl)
          try simp only [Act.put, sa7, sb7, sc7]
          refine wtk7 (i := 1) (v := ?v302) (ga7 rfl) (by kernel_rfl) (fun _ _ _ h => h) ⟨by rfl, ?hy302⟩ (by assumption) ?rest302
          case hy302 => (intro wq hSw; (try simp only [Two, RX] at hSw); go_simp; try with_reducible rfl)
          try simp only [Act.put, sa7, sb7, sc7]
          refine wtk7 (i := 2) (v := ?v303) (ga7 rfl) (by kernel_rfl) (fun _ _ _ h => h) ⟨by rfl, ?hy303⟩ (by assumption) ?rest303
          case hy303 => (intro wq hSw; (try simp only [Two, RX] at hSw); go_simp; try with_reducible rfl)
          try simp only [Act.put, sa7, sb7, sc7]
          refine wtk7 (i := 3) (v := ?v304) (ga7 rfl) (by kernel_rfl) (fun _ _ _ h => h) ⟨by rfl, ?hy304⟩ (by assumption) ?rest304
          case hy304 => (intro wq hSw; (try simp only [Two, RX] at hSw); go_simp; try with_reducible rfl)
          try simp only [Act.put, sa7, sb7, sc7]
          refine wtk7 (i := 4) (v := ?v305) (ga7 rfl) (by kernel_rfl) (fun _ _ _ h => h) ⟨by rfl, ?hy305⟩ (by assumption) ?rest305
          case hy305 => (intro wq hSw; (try simp only [Two, RX] at hSw); go_simp; try with_reducible rfl)
          try simp only [Act.put, sa7, sb7, sc7]
          refine wtk7 (i := 5) (v := ?v306) (ga7 rfl) (by kernel_rfl) (fun _ _ _ h => h) ⟨by rfl, ?hy306⟩ (by assumption) ?rest306
          case hy306 => (intro wq hSw; (try simp only [Two, RX] at hSw); go_simp; try with_reducible rfl)
          try simp only [Act.put, sa7, sb7, sc7]
          refine wtk7 (i := 6) (v := ?v307) (ga7 rfl) (by kernel_rfl) (fun _ _ _ h => h) ⟨by rfl, ?hy307⟩ (by assumption) ?rest307
          case hy307 => (intro wq hSw; (try simp only [Two, RX] at hSw); go_simp; try with_reducible rfl)
          try simp only [Act.put, sa7, sb7, sc7]
          refine wtk7 (i := 7) (v := ?v308) (ga7 rfl) (by kernel_rfl) (fun _ _ _ h => h) ⟨by rfl, ?hy308⟩ (by assumption) ?rest308
          case hy308 => (intro wq hSw; (try simp only [Two, RX] at hSw); go_simp; try with_reducible rfl)
          try simp only [Act.put, sa7, sb7, sc7]
          refine wtk7 (i := 8) (v := ?v309) (ga7 rfl) (by kernel_rfl) (fun _ _ _ h => h) ⟨by rfl, ?hy309⟩ (by assumption) ?rest309
          case hy309 => (intro wq hSw; (try simp only [Two, RX] at hSw); go_simp; try with_reducible rfl)
          try simp only [Act.put, sa7, sb7, sc7]
          refine wtk7 (i := 9) (v := ?v310) (ga7 rfl) (by kernel_rfl) (fun _ _ _ h => h) ⟨by rfl, ?hy310⟩ (by assumption) ?rest310
          case hy310 => (intro wq hSw; (try simp only [Two, RX] at hSw); go_simp; try with_reducible rfl)
          try simp only [Act.put, sa7, sb7, sc7]
          refine wtk7 (i := 10) (v := ?v311) (ga7 rfl) (by kernel_rfl) (fun _ _ _ h => h) ⟨by rfl, ?hy311⟩ (by assumption) ?rest311
          case hy311 => (intro wq hSw; (try simp only [Two, RX] at hSw); go_simp; try with_reducible rfl)
          try simp only [Act.put, sa7, sb7, sc7]
          refine wtk7 (i := 11) (v := ?v312) (ga7 rfl) (by kernel_rfl) (fun _ _ _ h => h) ⟨by rfl, ?hy312⟩ (by assumption) ?rest312
          case hy312 => (intro wq hSw; (try simp only [Two, RX] at hSw); go_simp; try with_reducible rfl)
          try simp only [Act.put, sa7, sb7, sc7]
          refine wtk7 (i := 12) (v := ?v313) (ga7 rfl) (by kernel_rfl) (fun _ _ _ h => h) ⟨by rfl, ?hy313⟩ (by assumption) ?rest313
          case hy313 => (intro wq hSw; (try simp only [Two, RX] at hSw); go_simp; try with_reducible rfl)
          try simp only [Act.put, sa7, sb7, sc7]
          refine wtk7 (i := 13) (v := ?v314) (ga7 rfl) (by kernel_rfl) (fun _ _ _ h => h) ⟨by rfl, ?hy314⟩ (by assumption) ?rest314
          case hy314 => (intro wq hSw; (try simp only [Two, RX] at hSw); go_simp; try with_reducible rfl)
          try simp only [Act.put, sa7, sb7, sc7]
          refine wtk7 (i := 14) (v := ?v315) (ga7 rfl) (by kernel_rfl) (fun _ _ _ h => h) ⟨by rfl, ?hy315⟩ (by assumption) ?rest315
          case hy315 => (intro wq hSw; (try simp only [Two, RX] at hSw); go_simp; try with_reducible rfl)
          try simp only [Act.put, sa7, sb7, sc7]
          refine wtk7 (i := 15) (v := ?v316) (ga7 rfl) (by kernel_rfl) (fun _ _ _ h => h) ⟨by rfl, ?hy316⟩ (by assumption) ?rest316
          case hy316 => (intro wq hSw; (try simp only [Two, RX] at hSw); go_simp; try with_reducible rfl)
          try simp only [Act.put, sa7, sb7, sc7]
          refine wpAnyH_ready (rs := [16]) (by kernel_rfl) (by simp) ?rdy317
          refine AllReadyH.cons (ga7 rfl) (fun K hK => ?stp317) AllReadyH.nil
          go_simp
          go_wp2_with fail
          (refine (O1.out _).mono ?_; rintro e w4 ⟨rfl, hb4⟩)
          go_wp2_with fail
          refine hK.out _ _ ?hSn317 (fun hHeld2 => ?rest317)
          case hSn317 => (first | with_reducible exact X0.drew | with_reducible exact hHeld.below hb4 (fun z => z.below hb4))
          clear hK K hHeld
          have hHeld := hHeld2
          clear hHeld2
          try simp only [Act.put, sa7, sb7, sc7]
          refine wtk7 (i := 17) (v := ?v318) (ga7 rfl) (by kernel_rfl) (fun _ _ _ h => h) ⟨by rfl, ?hy318⟩ (by assumption) ?rest318
          case hy318 => (intro wq hSw; (try simp only [Two, RX] at hSw); go_simp; try with_reducible rfl)
          try simp only [Act.put, sa7, sb7, sc7]
          refine wpAnyH_done (by kernel_rfl) ?fin300 _
          have Z2 := hHeld.2.out
          have B2 : Below w.heap.size w w4 := B.out.drew.trans (hb4.mono B.out.size)
          have ZH := hide Z2
          have BH := hide B2
          clear hHeld X0 O1 hb4 B Z2 B2
          go_wp2
          go_ret
          exact ⟨rfl, ZH.out.2.2, ZH.out.1, BH.out⟩
    · obtain rfl : i = N := by omega
      have hlt' : ¬ (i : Int) < i := by omega
      have t : T = false := by
        cases hT : T
        · rfl
        · obtain ⟨p, h1, h2⟩ := HB.out.1 hT
          exact absurd ⟨h1, h2⟩ (G.out p (FN.out p h2))
      subst t
      clear G HB OV FO FN
      go_wp2
      go_ret
      exact ⟨rfl, Z.out.2.2, Z.out.1, B.out⟩

/-- The numbers of those that are used. -/
def usedL (f : Nat → Bool) : Nat → List Nat
  | 0 => []
  | j + 1 => if f j then usedL f j ++ [j] else usedL f j

theorem usedL_len (f : Nat → Bool) : ∀ N, (usedL f N).length = cnt f N
  | 0 => rfl
  | N + 1 => by
    simp only [usedL, cnt]
    split
    · rw [List.length_append, usedL_len f N]; rfl
    · rw [usedL_len f N]; rfl

theorem usedL_cells (v : Bool) (n : Nat) (k : Int) (f : Nat → Bool) : ∀ N, cellsB v n k f N = cellsQ v n k (usedL f N)
  | 0 => rfl
  | N + 1 => by
    simp only [cellsB, usedL]
    split
    · rw [cellsQ_add, usedL_cells v n k f N]; rfl
    · exact usedL_cells v n k f N

theorem usedL_mem {f : Nat → Bool} : ∀ {N p : Nat}, p ∈ usedL f N → p < N ∧ f p = true
  | 0, p, h => by cases h
  | N + 1, p, h => by
    simp only [usedL] at h
    split at h
    · rename_i c
      rcases List.mem_append.1 h with h | h
      · have := usedL_mem h; exact ⟨by omega, this.2⟩
      · simp at h; subst h; exact ⟨by omega, c⟩
    · have := usedL_mem h; exact ⟨by omega, this.2⟩

/-- A cell of a row that a call told. -/
theorem row_at8 {W : World} {base n : Nat} {k : Int} {v : Bool} {u : Value} {gs : List Nat} (h : W.ownsRow base 28 4 u gs.length (cellsQ v n k gs)) : ∃ x cap, u = .slice x gs.length cap ∧ ∀ j (hj : j < gs.length), ∃ B, x = some ⟨B, 0, none⟩ ∧ W.cell? ⟨B, j * 4, none⟩ = some (.bool v) ∧ W.cell? ⟨B, j * 4 + 1, none⟩ = some (.int .u64 ((blkN v n k gs[j] / 18446744073709551616 : Nat) : Int)) ∧ W.cell? ⟨B, j * 4 + 2, none⟩ = some (.int .u64 ((blkN v n k gs[j] % 18446744073709551616 : Nat) : Int)) ∧ W.cell? ⟨B, j * 4 + 3, none⟩ = some (.int .i64 k) := by
  rcases h.2 with ⟨h1, h2⟩ | ⟨g, cap, cur, h1, _⟩
  · exact ⟨none, 0, by rw [h1, h2], fun j hj => by omega⟩
  · refine ⟨some ⟨g, 0, none⟩, cap, h1, fun j hj => ?_⟩
    obtain ⟨B, cap', e, c⟩ := row_at7 h rfl hj
    rw [h1] at e
    injection e with e1
    injection e1 with e1
    injection e1 with e1
    subst e1
    exact ⟨g, rfl, c⟩

set_option maxRecDepth 100000 in
set_option maxHeartbeats 3200000 in
theorem rlist7_c {v : Bool} {h l b k : Int} {r gl cap gu n N c : Nat} {f : Nat → Bool} (hN : N ≤ 65536) (w : World) (R : RAt w v h l b k r gl cap gu n N f c) :
    Calls Tryz.prog 36 #[.pointer (some ⟨r, 0, none⟩)] w fun e w' => ∃ sv, e = .returned sv ∧ w'.ownsRow w.heap.size 28 4 sv (usedL f N).length (cellsQ v n k (usedL f N)) ∧ Below w.heap.size w w' := by
  obtain ⟨i0, hinf, hz0, hz1, hz2⟩ := info_parts infoPfx7
  have RH := hide R
  have x5 := R.hd.cell 5
  have xl := R.hd.lt
  have bl : Below w.heap.size w (w.alloc (.cells #[] 28)) := by repeat (first | with_reducible exact Below.refl _ _ | with_reducible refine Below.drew ?_ | with_reducible refine Below.alloc ?_ (by first | omega | (simp <;> omega)) _ | with_reducible refine Below.setCell ?_ (by first | omega | (simp <;> omega)) _)
  have row0 : Hid ((w.alloc (.cells #[] 28)).ownsRow w.heap.size 28 4 (.slice (some ⟨w.heap.size, 0, none⟩) 0 0) (usedL f 0).length (cellsQ v n k (usedL f 0))) := World.ownsRow_made _ _ _ (Nat.le_refl _) (Nat.zero_le _) rfl
  have B0 := hide bl
  clear R bl
  go_enter Tryz.func36, Tryz.ntmps36
  go_wp2_with fail
  go_loopw [3, 4] (fun u iv wr => ∃ j : Nat, j ≤ N ∧ iv = .int .i64 j ∧ Hid (wr.ownsRow w.heap.size 28 4 u (usedL f j).length (cellsQ v n k (usedL f j))) ∧ Hid (Below w.heap.size w wr)) (fun _ iv _ => N - (intOf iv).toNat)
  case atStart => exact ⟨0, by omega, rfl, row0, B0⟩
  case round =>
    clear row0 B0 x5
    obtain ⟨j, hj, rfl, ho, B⟩ := hrel
    have R1 := hide (RH.out.below B.out)
    have y5 := R1.out.hd.cell 5
    have y6 := R1.out.hd.cell 6
    have yl := R1.out.hd.lt
    have hs := B.out.size
    by_cases hlt : j < N
    · have hlt' : (j : Int) < N := by omega
      have g := R1.out.get hlt
      have ul : (usedL f j).length ≤ j := by rw [usedL_len]; exact cnt_le _ _
      cases hfj : f j
      · rw [hfj] at g
        have e1 : Hid (usedL f (j + 1) = usedL f j) := by show _ = _; simp [usedL, hfj]
        clear hfj R1
        go_wp2
        go_roundw
        case rel => exact ⟨j + 1, by omega, by go_num, by rw [e1.out]; exact ho, B⟩
        case measure => simp [intOf]; omega
      · rw [hfj] at g
        have e1 : Hid (usedL f (j + 1) = usedL f j ++ [j]) := by show _ = _; simp [usedL, hfj]
        obtain ⟨rh, hrh⟩ : ∃ rh : Int, ((blkN v n k j / 18446744073709551616 : Nat) : Int) = rh := ⟨_, rfl⟩
        obtain ⟨rl, hrl⟩ : ∃ rl : Int, ((blkN v n k j % 18446744073709551616 : Nat) : Int) = rl := ⟨_, rfl⟩
        obtain ⟨l0, l1, l2, l3⟩ := R1.out.at hlt
        rw [hrh] at l1
        rw [hrl] at l2
        have HA := hide hrh
        have HB := hide hrl
        obtain ⟨L, hL⟩ : ∃ L, (usedL f j).length = L := ⟨_, rfl⟩
        have HL := hide hL
        rw [hL] at ul
        have ho2 : Hid (wr.ownsRow w.heap.size 28 4 u3 L (cellsQ v n k (usedL f j))) := by show World.ownsRow _ _ _ _ _ _ _; rw [← hL]; exact ho.out
        obtain ⟨qa, cap0, hu3⟩ : ∃ qa cap0, u3 = .slice qa L cap0 := by
          rcases ho2.out.2 with ⟨h1, h2⟩ | ⟨gB, cap, cur, h1, _⟩
          · exact ⟨none, 0, by rw [h1, h2]⟩
          · exact ⟨some ⟨gB, 0, none⟩, cap, h1⟩
        subst hu3
        have N4 := four_new7 wr (.bool v) (.int .u64 rh) (.int .u64 rl) (.int .i64 k) 28
        have hone : ∀ u ∈ [Value.bool v, .int .u64 rh, .int .u64 rl, .int .i64 k], u.oneCell' = true := by
          intro u hu
          simp at hu
          rcases hu with rfl | rfl | rfl | rfl <;> rfl
        clear hrh hrl hfj R1 ho hL
        go_wp2_with (first | (at_builtin; refine wpList_append_own _ rfl _ _ 72 rfl w.heap.size 28 i0 (.agg #[.bool false, .int .u64 0, .int .u64 0, .int .i64 0]) 4 32 Tryz.underlying72 hinf hz0 hz1 hz2 rfl (by decide) _ _ _ rfl (ho2.out.alloc _) ⟨wr.heap.size, 0, none⟩ 1 1 [.bool v, .int .u64 rh, .int .u64 rl, .int .i64 k] rfl rfl N4 hone ?c3 ?c4 ?c5 ?_))
        case c3 => unfold maxLen; omega
        case c4 => omega
        case c5 => first | omega | (simp; omega)
        intro v' w5 hown5 hgrow _
        have B5 : Hid (Below w.heap.size w w5) := below_grown B.out hs ho2.out hgrow
        rw [← HA.out, ← HB.out, ← cellsQ_add, ← e1.out] at hown5
        have O5 : Hid (w5.ownsRow w.heap.size 28 4 v' (usedL f (j + 1)).length (cellsQ v n k (usedL f (j + 1)))) := by
          show World.ownsRow _ _ _ _ _ _ _
          have : (usedL f (j + 1)).length = L + 1 := by rw [e1.out, List.length_append, HL.out]; rfl
          rw [this]
          exact hown5
        clear ho2 B hown5 hgrow N4 hone l0 l1 l2 l3 y5 y6 g
        go_wp2
        go_roundw
        case rel => exact ⟨j + 1, by omega, by go_num, O5, B5⟩
        case measure => simp [intOf]; omega
    · obtain rfl : j = N := by omega
      have hlt' : ¬ (j : Int) < j := by omega
      clear R1
      go_wp2
      go_ret
      exact ⟨_, rfl, ho.out, B.out⟩
end Go.Proofs.YtllidkflgjjkfaaGreatDoor

namespace Go.Proofs.YtllidkflgjjkfaaGreatDoor
open Go.ChangeShapes Go.WideShapes Go.ChangeAt Go.RowKit
set_option linter.unusedVariables false
set_option linter.unusedSimpArgs false

/-- A prefix that may be a number's. -/
def PfxRet (w : World) (e : Ending) (w' : World) : Prop := ∃ (u : Bool) (qh ql : Int) (m : Nat) (c : Int), IsNum qh ql m ∧ e = .returned (pv u qh ql c) ∧ Below w.heap.size w w'

theorem aim_start {v u : Bool} {h l b k K qh ql cq A : Int} {r gl cap gu n N c : Nat} {f : Nat → Bool} (w : World) (R : RAt w v h l b k r gl cap gu n N f c) : Kn w [(w.heap.size + 1, [.bool false, .int .u64 0, .int .u64 0, .int .i64 0], 28), (w.heap.size, [.int .i64 K, .bool u, .int .u64 qh, .int .u64 ql, .int .i64 cq, .int .i64 A], 69), (r, [.bool v, .int .u64 h, .int .u64 l, .int .i64 b, .int .i64 k, .slice (some ⟨gl, 0, none⟩) N cap, .slice (some ⟨gu, 0, none⟩) N N, .int .i64 (c : Int)], 77)] ((w.alloc (.cells #[.int .i64 K, .bool u, .int .u64 qh, .int .u64 ql, .int .i64 cq, .int .i64 A] 69)).alloc (.cells #[.bool false, .int .u64 0, .int .u64 0, .int .i64 0] 28)) :=
  (((Kn.nil w).cons R.hd).push rfl).push (by simp)

set_option maxRecDepth 100000 in
set_option maxHeartbeats 1600000 in
theorem aim_zero {v u : Bool} {h l b k K qh ql cq A : Int} {r gl cap gu n m N c : Nat} {f : Nat → Bool} (hq : IsNum qh ql m) (hA : ¬ A > 0) (w : World) (R : RAt w v h l b k r gl cap gu n N f c) :
    Calls Tryz.prog 33 #[.pointer (some ⟨r, 0, none⟩), .agg #[.int .i64 K, .bool u, .int .u64 qh, .int .u64 ql, .int .i64 cq, .int .i64 A]] w fun e w' => PfxRet w e w' := by
  have K0 := aim_start (K := K) (u := u) (qh := qh) (ql := ql) (cq := cq) (A := A) w R
  have HQ := hide hq
  clear R hq
  go_enter Tryz.func33, Tryz.ntmps33
  go_wp2_with fail
  refine wp_region_held_drew (S := (Kn w [(w.heap.size + 1, [.bool false, .int .u64 0, .int .u64 0, .int .i64 0], 28), (w.heap.size, [.int .i64 K, .bool u, .int .u64 qh, .int .u64 ql, .int .i64 cq, .int .i64 A], 69), (r, [.bool v, .int .u64 h, .int .u64 l, .int .i64 b, .int .i64 k, .slice (some ⟨gl, 0, none⟩) N cap, .slice (some ⟨gu, 0, none⟩) N N, .int .i64 (c : Int)], 77)])) (by kernel_rfl) ?hS100 (fun hHeld => ?rest100)
  case hS100 => (first | with_reducible exact K0.drew)
  refine wtk7 (i := 0) (v := ?v101) (ga7 rfl) (by kernel_rfl) (fun _ _ _ h => h) ⟨by rfl, ?hy101⟩ (by assumption) ?rest101
  case hy101 => (intro wq hSw; (try simp only [Two, Kn, Facts, CellsAt] at hSw); go_simp; try with_reducible rfl)
  try simp only [Act.put, sa7, sb7, sc7]
  refine wtk7 (i := 1) (v := ?v102) (ga7 rfl) (by kernel_rfl) (fun _ _ _ h => h) ⟨by rfl, ?hy102⟩ (by assumption) ?rest102
  case hy102 => (intro wq hSw; (try simp only [Two, Kn, Facts, CellsAt] at hSw); go_simp; try with_reducible rfl)
  try simp only [Act.put, sa7, sb7, sc7]
  refine wtk7 (i := 2) (v := (Value.bool false)) (ga7 rfl) (by kernel_rfl) (fun _ _ _ h => h) ⟨by rfl, ?hy103⟩ (by assumption) ?rest103
  case hy103 => (intro wq hSw; (try simp only [Two, Kn, Facts, CellsAt] at hSw); go_simp; (all_goals (first | rfl | (simp; omega) | (simp; done) | omega)))
  try simp only [Act.put, sa7, sb7, sc7]
  refine wtk7 (i := 3) (v := ?v104) (ga7 rfl) (by kernel_rfl) (fun _ _ _ h => h) ⟨by rfl, ?hy104⟩ (by assumption) ?rest104
  case hy104 => (intro wq hSw; (try simp only [Two, Kn, Facts, CellsAt] at hSw); go_simp; try with_reducible rfl)
  try simp only [Act.put, sa7, sb7, sc7]
  refine wpAnyH_take (i := 4) (oi := _) (v := undef) (ga7 rfl) (by kernel_rfl) (by kernel_rfl) (by kernel_rfl) (fun _ _ _ h => h) (Or.inr ⟨by rfl, rfl⟩) (by assumption) ?rest105
  try simp only [Act.put, sa7, sb7, sc7]
  refine wpAnyH_take (i := 5) (oi := _) (v := undef) (ga7 rfl) (by kernel_rfl) (by kernel_rfl) (by kernel_rfl) (fun _ _ _ h => h) (Or.inr ⟨by rfl, rfl⟩) (by assumption) ?rest106
  try simp only [Act.put, sa7, sb7, sc7]
  refine wpAnyH_take (i := 6) (oi := _) (v := undef) (ga7 rfl) (by kernel_rfl) (by kernel_rfl) (by kernel_rfl) (fun _ _ _ h => h) (Or.inr ⟨by rfl, rfl⟩) (by assumption) ?rest107
  try simp only [Act.put, sa7, sb7, sc7]
  refine wpAnyH_take (i := 7) (oi := _) (v := undef) (ga7 rfl) (by kernel_rfl) (by kernel_rfl) (by kernel_rfl) (fun _ _ _ h => h) (Or.inr ⟨by rfl, rfl⟩) (by assumption) ?rest108
  try simp only [Act.put, sa7, sb7, sc7]
  refine wpAnyH_take (i := 8) (oi := _) (v := undef) (ga7 rfl) (by kernel_rfl) (by kernel_rfl) (by kernel_rfl) (fun _ _ _ h => h) (Or.inr ⟨by rfl, rfl⟩) (by assumption) ?rest109
  try simp only [Act.put, sa7, sb7, sc7]
  refine wpAnyH_take (i := 9) (oi := _) (v := undef) (ga7 rfl) (by kernel_rfl) (by kernel_rfl) (by kernel_rfl) (fun _ _ _ h => h) (Or.inr ⟨by rfl, rfl⟩) (by assumption) ?rest110
  try simp only [Act.put, sa7, sb7, sc7]
  refine wpAnyH_take (i := 10) (oi := _) (v := undef) (ga7 rfl) (by kernel_rfl) (by kernel_rfl) (by kernel_rfl) (fun _ _ _ h => h) (Or.inr ⟨by rfl, rfl⟩) (by assumption) ?rest111
  try simp only [Act.put, sa7, sb7, sc7]
  refine wpAnyH_take (i := 11) (oi := _) (v := undef) (ga7 rfl) (by kernel_rfl) (by kernel_rfl) (by kernel_rfl) (fun _ _ _ h => h) (Or.inr ⟨by rfl, rfl⟩) (by assumption) ?rest112
  try simp only [Act.put, sa7, sb7, sc7]
  refine wtk7 (i := 12) (v := ?v113) (ga7 rfl) (by kernel_rfl) (fun _ _ _ h => h) ⟨by rfl, ?hy113⟩ (by assumption) ?rest113
  case hy113 => (intro wq hSw; (try simp only [Two, Kn, Facts, CellsAt] at hSw); go_simp; try with_reducible rfl)
  try simp only [Act.put, sa7, sb7, sc7]
  refine wpAnyH_done (by kernel_rfl) ?fin100 _
  have F := hHeld.1
  simp only [Facts, CellsAt] at F
  obtain ⟨z0, z1, z2, z3, z4, z5, z6, z7, z8⟩ := hHeld.2.1.1.four
  have B := hide hHeld.bel
  have bs := B.out.size
  clear hHeld K0
  go_wp2
  refine bodyPost_ret (v := pv u qh ql cq) (by simp [results, Tryz.results33, go_sem, World.cell?_setCell_same', World.cell?_setCell_other, *]) rfl ⟨u, qh, ql, m, cq, HQ.out, rfl, by repeat (first | with_reducible exact Below.refl _ _ | with_reducible refine Below.drew ?_ | with_reducible refine Below.alloc ?_ (by first | omega | (simp <;> omega)) _ | with_reducible refine Below.setCell ?_ (by first | omega | (simp <;> omega)) _ | with_reducible refine Below.trans ?_ (Below.mono B.out (by first | omega | (simp <;> omega))))⟩

set_option maxRecDepth 100000 in
set_option maxHeartbeats 1600000 in
theorem aim_out {v u : Bool} {h l b k K qh ql cq A : Int} {r gl cap gu n m N c : Nat} {f : Nat → Bool} (hq : IsNum qh ql m) (hA : A > 0) (hN : ¬ A ≤ (N : Int)) (w : World) (R : RAt w v h l b k r gl cap gu n N f c) :
    Calls Tryz.prog 33 #[.pointer (some ⟨r, 0, none⟩), .agg #[.int .i64 K, .bool u, .int .u64 qh, .int .u64 ql, .int .i64 cq, .int .i64 A]] w fun e w' => PfxRet w e w' := by
  have K0 := aim_start (K := K) (u := u) (qh := qh) (ql := ql) (cq := cq) (A := A) w R
  have HQ := hide hq
  clear R hq
  go_enter Tryz.func33, Tryz.ntmps33
  go_wp2_with fail
  refine wp_region_held_drew (S := (Kn w [(w.heap.size + 1, [.bool false, .int .u64 0, .int .u64 0, .int .i64 0], 28), (w.heap.size, [.int .i64 K, .bool u, .int .u64 qh, .int .u64 ql, .int .i64 cq, .int .i64 A], 69), (r, [.bool v, .int .u64 h, .int .u64 l, .int .i64 b, .int .i64 k, .slice (some ⟨gl, 0, none⟩) N cap, .slice (some ⟨gu, 0, none⟩) N N, .int .i64 (c : Int)], 77)])) (by kernel_rfl) ?hS200 (fun hHeld => ?rest200)
  case hS200 => (first | with_reducible exact K0.drew)
  refine wtk7 (i := 0) (v := ?v201) (ga7 rfl) (by kernel_rfl) (fun _ _ _ h => h) ⟨by rfl, ?hy201⟩ (by assumption) ?rest201
  case hy201 => (intro wq hSw; (try simp only [Two, Kn, Facts, CellsAt] at hSw); go_simp; try with_reducible rfl)
  try simp only [Act.put, sa7, sb7, sc7]
  refine wtk7 (i := 1) (v := ?v202) (ga7 rfl) (by kernel_rfl) (fun _ _ _ h => h) ⟨by rfl, ?hy202⟩ (by assumption) ?rest202
  case hy202 => (intro wq hSw; (try simp only [Two, Kn, Facts, CellsAt] at hSw); go_simp; try with_reducible rfl)
  try simp only [Act.put, sa7, sb7, sc7]
  refine wtk7 (i := 2) (v := (Value.bool true)) (ga7 rfl) (by kernel_rfl) (fun _ _ _ h => h) ⟨by rfl, ?hy203⟩ (by assumption) ?rest203
  case hy203 => (intro wq hSw; (try simp only [Two, Kn, Facts, CellsAt] at hSw); go_simp; (all_goals (first | rfl | (simp; omega) | (simp; done) | omega)))
  try simp only [Act.put, sa7, sb7, sc7]
  refine wtk7 (i := 3) (v := ?v204) (ga7 rfl) (by kernel_rfl) (fun _ _ _ h => h) ⟨by rfl, ?hy204⟩ (by assumption) ?rest204
  case hy204 => (intro wq hSw; (try simp only [Two, Kn, Facts, CellsAt] at hSw); go_simp; try with_reducible rfl)
  try simp only [Act.put, sa7, sb7, sc7]
  refine wtk7 (i := 4) (v := ?v205) (ga7 rfl) (by kernel_rfl) (fun _ _ _ h => h) ⟨by rfl, ?hy205⟩ (by assumption) ?rest205
  case hy205 => (intro wq hSw; (try simp only [Two, Kn, Facts, CellsAt] at hSw); go_simp; try with_reducible rfl)
  try simp only [Act.put, sa7, sb7, sc7]
  refine wtk7 (i := 5) (v := ?v206) (ga7 rfl) (by kernel_rfl) (fun _ _ _ h => h) ⟨by rfl, ?hy206⟩ (by assumption) ?rest206
  case hy206 => (intro wq hSw; (try simp only [Two, Kn, Facts, CellsAt] at hSw); go_simp; try with_reducible rfl)
  try simp only [Act.put, sa7, sb7, sc7]
  refine wtk7 (i := 6) (v := ?v207) (ga7 rfl) (by kernel_rfl) (fun _ _ _ h => h) ⟨by rfl, ?hy207⟩ (by assumption) ?rest207
  case hy207 => (intro wq hSw; (try simp only [Two, Kn, Facts, CellsAt] at hSw); go_simp; try with_reducible rfl)
  try simp only [Act.put, sa7, sb7, sc7]
  refine wtk7 (i := 7) (v := ?v208) (ga7 rfl) (by kernel_rfl) (fun _ _ _ h => h) ⟨by rfl, ?hy208⟩ (by assumption) ?rest208
  case hy208 => (intro wq hSw; (try simp only [Two, Kn, Facts, CellsAt] at hSw); go_simp; try with_reducible rfl)
  try simp only [Act.put, sa7, sb7, sc7]
  refine wtk7 (i := 8) (v := ?v209) (ga7 rfl) (by kernel_rfl) (fun _ _ _ h => h) ⟨by rfl, ?hy209⟩ (by assumption) ?rest209
  case hy209 => (intro wq hSw; (try simp only [Two, Kn, Facts, CellsAt] at hSw); go_simp; try with_reducible rfl)
  try simp only [Act.put, sa7, sb7, sc7]
  refine wtk7 (i := 9) (v := ?v210) (ga7 rfl) (by kernel_rfl) (fun _ _ _ h => h) ⟨by rfl, ?hy210⟩ (by assumption) ?rest210
  case hy210 => (intro wq hSw; (try simp only [Two, Kn, Facts, CellsAt] at hSw); go_simp; try with_reducible rfl)
  try simp only [Act.put, sa7, sb7, sc7]
  refine wtk7 (i := 10) (v := ?v211) (ga7 rfl) (by kernel_rfl) (fun _ _ _ h => h) ⟨by rfl, ?hy211⟩ (by assumption) ?rest211
  case hy211 => (intro wq hSw; (try simp only [Two, Kn, Facts, CellsAt] at hSw); go_simp; try with_reducible rfl)
  try simp only [Act.put, sa7, sb7, sc7]
  refine wtk7 (i := 11) (v := (Value.bool false)) (ga7 rfl) (by kernel_rfl) (fun _ _ _ h => h) ⟨by rfl, ?hy212⟩ (by assumption) ?rest212
  case hy212 => (intro wq hSw; (try simp only [Two, Kn, Facts, CellsAt] at hSw); go_simp; (all_goals (first | rfl | (simp; omega) | (simp; done) | omega)))
  try simp only [Act.put, sa7, sb7, sc7]
  refine wtk7 (i := 12) (v := ?v213) (ga7 rfl) (by kernel_rfl) (fun _ _ _ h => h) ⟨by rfl, ?hy213⟩ (by assumption) ?rest213
  case hy213 => (intro wq hSw; (try simp only [Two, Kn, Facts, CellsAt] at hSw); go_simp; try with_reducible rfl)
  try simp only [Act.put, sa7, sb7, sc7]
  refine wpAnyH_done (by kernel_rfl) ?fin200 _
  have F := hHeld.1
  simp only [Facts, CellsAt] at F
  obtain ⟨z0, z1, z2, z3, z4, z5, z6, z7, z8⟩ := hHeld.2.1.1.four
  have B := hide hHeld.bel
  have bs := B.out.size
  clear hHeld K0
  go_wp2
  refine bodyPost_ret (v := pv u qh ql cq) (by simp [results, Tryz.results33, go_sem, World.cell?_setCell_same', World.cell?_setCell_other, *]) rfl ⟨u, qh, ql, m, cq, HQ.out, rfl, by repeat (first | with_reducible exact Below.refl _ _ | with_reducible refine Below.drew ?_ | with_reducible refine Below.alloc ?_ (by first | omega | (simp <;> omega)) _ | with_reducible refine Below.setCell ?_ (by first | omega | (simp <;> omega)) _ | with_reducible refine Below.trans ?_ (Below.mono B.out (by first | omega | (simp <;> omega))))⟩

/-- What the second way of aim reads. -/
def MX (w : World) (r : Nat) (gl cap N : Nat) (i : Nat) (v : Bool) (rh rl k : Int) (A : Int) (W : World) : Prop :=
  (W.cell? ⟨r, 5, none⟩ = some (.slice (some ⟨gl, 0, none⟩) N cap) ∧ W.cell? ⟨w.heap.size, 5, none⟩ = some (.int .i64 A) ∧ W.cell? ⟨gl, i * 4, none⟩ = some (.bool v) ∧ W.cell? ⟨gl, i * 4 + 1, none⟩ = some (.int .u64 rh) ∧ W.cell? ⟨gl, i * 4 + 2, none⟩ = some (.int .u64 rl) ∧ W.cell? ⟨gl, i * 4 + 3, none⟩ = some (.int .i64 k)) ∧ Hid (Below w.heap.size w W ∧ ∃ x y z q, Blk W (w.heap.size + 1) #[x, y, z, q] 28)

theorem MX.drew {w : World} {r : Nat} {gl cap N : Nat} {i : Nat} {v : Bool} {rh rl k : Int} {A : Int} {W : World} (s : MX w r gl cap N i v rh rl k A W) : MX w r gl cap N i v rh rl k A W.drew :=
  ⟨s.1, ⟨s.2.out.1.drew, s.2.out.2⟩⟩

theorem MX.put {w : World} {r : Nat} {gl cap N : Nat} {i : Nat} {v : Bool} {rh rl k : Int} {A : Int} {W : World} (s : MX w r gl cap N i v rh rl k A W) (h1 : r ≠ w.heap.size + 1) (h2 : gl ≠ w.heap.size + 1) (a0 a1 a2 a3 : Value) : MX w r gl cap N i v rh rl k A ((((W.setCell ⟨w.heap.size + 1, 0, none⟩ a0).setCell ⟨w.heap.size + 1, 1, none⟩ a1).setCell ⟨w.heap.size + 1, 2, none⟩ a2).setCell ⟨w.heap.size + 1, 3, none⟩ a3) := by
  obtain ⟨⟨c0, c1, c2, c3, c4, c5⟩, z⟩ := s
  obtain ⟨B, x, y, z', q, Z⟩ := z.out
  have e : ∀ {W : World} {D o j : Nat} {u a : Value}, D ≠ w.heap.size + 1 → W.cell? ⟨D, o, none⟩ = some u → (W.setCell ⟨w.heap.size + 1, j, none⟩ a).cell? ⟨D, o, none⟩ = some u := fun {W D o j u a} hD h => by rw [World.cell?_of_block (w := W) (Below.heap_setCell _ _ _ _ hD)]; exact h
  have e4 : ∀ {D o : Nat} {u : Value}, D ≠ w.heap.size + 1 → W.cell? ⟨D, o, none⟩ = some u → ((((W.setCell ⟨w.heap.size + 1, 0, none⟩ a0).setCell ⟨w.heap.size + 1, 1, none⟩ a1).setCell ⟨w.heap.size + 1, 2, none⟩ a2).setCell ⟨w.heap.size + 1, 3, none⟩ a3).cell? ⟨D, o, none⟩ = some u := fun {D o u} hD h => e hD (e hD (e hD (e hD h)))
  have le : w.heap.size ≤ w.heap.size + 1 := by omega
  exact ⟨⟨e4 h1 c0, e4 (by omega) c1, e4 h2 c2, e4 h2 c3, e4 h2 c4, e4 h2 c5⟩, ⟨(((B.setCell (p := ⟨w.heap.size + 1, 0, none⟩) le a0).setCell (p := ⟨w.heap.size + 1, 1, none⟩) le a1).setCell (p := ⟨w.heap.size + 1, 2, none⟩) le a2).setCell (p := ⟨w.heap.size + 1, 3, none⟩) le a3, a0, a1, a2, a3, Z.put4 a0 a1 a2 a3⟩⟩

set_option maxRecDepth 100000 in
set_option maxHeartbeats 1600000 in
theorem aim_in {v u : Bool} {h l b k K qh ql cq rh rl : Int} {r gl cap gu n N c i : Nat} {f : Nat → Bool} (hi : i < N) (hN : N ≤ 65536) (hrh : ((blkN v n k i / 18446744073709551616 : Nat) : Int) = rh) (hrl : ((blkN v n k i % 18446744073709551616 : Nat) : Int) = rl) (hb : IsNum rh rl (blkN v n k i)) (w : World) (R : RAt w v h l b k r gl cap gu n N f c) :
    Calls Tryz.prog 33 #[.pointer (some ⟨r, 0, none⟩), .agg #[.int .i64 K, .bool u, .int .u64 qh, .int .u64 ql, .int .i64 cq, .int .i64 ((i : Int) + 1)]] w fun e w' => PfxRet w e w' := by
  have K0 := aim_start (K := K) (u := u) (qh := qh) (ql := ql) (cq := cq) (A := (i : Int) + 1) w R
  obtain ⟨l0, l1, l2, l3⟩ := R.at hi
  rw [hrh] at l1
  rw [hrl] at l2
  have RL := R.lt
  have bl := K0.bel
  have e : ∀ {B o v}, w.cell? ⟨B, o, none⟩ = some v → ((w.alloc (.cells #[.int .i64 K, .bool u, .int .u64 qh, .int .u64 ql, .int .i64 cq, .int .i64 ((i : Int) + 1)] 69)).alloc (.cells #[.bool false, .int .u64 0, .int .u64 0, .int .i64 0] 28)).cell? ⟨B, o, none⟩ = some v := fun {B o v} hh => ((bcell bl).1 B o (cell_in8 hh)).trans hh
  have M0 : Hid (MX w r gl cap N i v rh rl k ((i : Int) + 1) ((w.alloc (.cells #[.int .i64 K, .bool u, .int .u64 qh, .int .u64 ql, .int .i64 cq, .int .i64 ((i : Int) + 1)] 69)).alloc (.cells #[.bool false, .int .u64 0, .int .u64 0, .int .i64 0] 28))) :=
    ⟨⟨e (R.hd.cell 5), K0.2.1.2.1.cell 5, e l0, e l1, e l2, e l3⟩, ⟨bl, _, _, _, _, K0.2.1.1⟩⟩
  have HB := hide hb
  have c1 : (i : Int) + 1 > 0 := by omega
  have c2 : (i : Int) + 1 ≤ (N : Int) := by omega
  have hw : IntKind.i64.wrap (i : Int) = (i : Int) := by simp [IntKind.wrap, IntKind.bits, IntKind.signed]; omega
  have hiN : (i : Int) < (N : Int) := by omega
  clear R l0 l1 l2 l3 e bl hrh hrl hb
  go_enter Tryz.func33, Tryz.ntmps33
  go_wp2_with fail
  refine wp_region_held_drew (S := (Kn w [(w.heap.size + 1, [.bool false, .int .u64 0, .int .u64 0, .int .i64 0], 28), (w.heap.size, [.int .i64 K, .bool u, .int .u64 qh, .int .u64 ql, .int .i64 cq, .int .i64 ((i : Int) + 1)], 69), (r, [.bool v, .int .u64 h, .int .u64 l, .int .i64 b, .int .i64 k, .slice (some ⟨gl, 0, none⟩) N cap, .slice (some ⟨gu, 0, none⟩) N N, .int .i64 (c : Int)], 77)])) (by kernel_rfl) ?hS300 (fun hHeld => ?rest300)
  case hS300 => (first | with_reducible exact K0.drew)
  refine wtk7 (i := 0) (v := ?v301) (ga7 rfl) (by kernel_rfl) (fun _ _ _ h => h) ⟨by rfl, ?hy301⟩ (by assumption) ?rest301
  case hy301 => (intro wq hSw; (try simp only [Two, Kn, Facts, CellsAt] at hSw); go_simp; try with_reducible rfl)
  try simp only [Act.put, sa7, sb7, sc7]
  refine wtk7 (i := 1) (v := ?v302) (ga7 rfl) (by kernel_rfl) (fun _ _ _ h => h) ⟨by rfl, ?hy302⟩ (by assumption) ?rest302
  case hy302 => (intro wq hSw; (try simp only [Two, Kn, Facts, CellsAt] at hSw); go_simp; try with_reducible rfl)
  try simp only [Act.put, sa7, sb7, sc7]
  refine wtk7 (i := 2) (v := (Value.bool true)) (ga7 rfl) (by kernel_rfl) (fun _ _ _ h => h) ⟨by rfl, ?hy303⟩ (by assumption) ?rest303
  case hy303 => (intro wq hSw; (try simp only [Two, Kn, Facts, CellsAt] at hSw); go_simp; (all_goals (first | rfl | (simp; omega) | (simp; done) | omega)))
  try simp only [Act.put, sa7, sb7, sc7]
  refine wtk7 (i := 3) (v := ?v304) (ga7 rfl) (by kernel_rfl) (fun _ _ _ h => h) ⟨by rfl, ?hy304⟩ (by assumption) ?rest304
  case hy304 => (intro wq hSw; (try simp only [Two, Kn, Facts, CellsAt] at hSw); go_simp; try with_reducible rfl)
  try simp only [Act.put, sa7, sb7, sc7]
  refine wtk7 (i := 4) (v := ?v305) (ga7 rfl) (by kernel_rfl) (fun _ _ _ h => h) ⟨by rfl, ?hy305⟩ (by assumption) ?rest305
  case hy305 => (intro wq hSw; (try simp only [Two, Kn, Facts, CellsAt] at hSw); go_simp; try with_reducible rfl)
  try simp only [Act.put, sa7, sb7, sc7]
  refine wtk7 (i := 5) (v := ?v306) (ga7 rfl) (by kernel_rfl) (fun _ _ _ h => h) ⟨by rfl, ?hy306⟩ (by assumption) ?rest306
  case hy306 => (intro wq hSw; (try simp only [Two, Kn, Facts, CellsAt] at hSw); go_simp; try with_reducible rfl)
  try simp only [Act.put, sa7, sb7, sc7]
  refine wtk7 (i := 6) (v := ?v307) (ga7 rfl) (by kernel_rfl) (fun _ _ _ h => h) ⟨by rfl, ?hy307⟩ (by assumption) ?rest307
  case hy307 => (intro wq hSw; (try simp only [Two, Kn, Facts, CellsAt] at hSw); go_simp; try with_reducible rfl)
  try simp only [Act.put, sa7, sb7, sc7]
  refine wtk7 (i := 7) (v := ?v308) (ga7 rfl) (by kernel_rfl) (fun _ _ _ h => h) ⟨by rfl, ?hy308⟩ (by assumption) ?rest308
  case hy308 => (intro wq hSw; (try simp only [Two, Kn, Facts, CellsAt] at hSw); go_simp; try with_reducible rfl)
  try simp only [Act.put, sa7, sb7, sc7]
  refine wtk7 (i := 8) (v := ?v309) (ga7 rfl) (by kernel_rfl) (fun _ _ _ h => h) ⟨by rfl, ?hy309⟩ (by assumption) ?rest309
  case hy309 => (intro wq hSw; (try simp only [Two, Kn, Facts, CellsAt] at hSw); go_simp; try with_reducible rfl)
  try simp only [Act.put, sa7, sb7, sc7]
  refine wtk7 (i := 9) (v := ?v310) (ga7 rfl) (by kernel_rfl) (fun _ _ _ h => h) ⟨by rfl, ?hy310⟩ (by assumption) ?rest310
  case hy310 => (intro wq hSw; (try simp only [Two, Kn, Facts, CellsAt] at hSw); go_simp; try with_reducible rfl)
  try simp only [Act.put, sa7, sb7, sc7]
  refine wtk7 (i := 10) (v := ?v311) (ga7 rfl) (by kernel_rfl) (fun _ _ _ h => h) ⟨by rfl, ?hy311⟩ (by assumption) ?rest311
  case hy311 => (intro wq hSw; (try simp only [Two, Kn, Facts, CellsAt] at hSw); go_simp; try with_reducible rfl)
  try simp only [Act.put, sa7, sb7, sc7]
  refine wtk7 (i := 11) (v := (Value.bool true)) (ga7 rfl) (by kernel_rfl) (fun _ _ _ h => h) ⟨by rfl, ?hy312⟩ (by assumption) ?rest312
  case hy312 => (intro wq hSw; (try simp only [Two, Kn, Facts, CellsAt] at hSw); go_simp; (all_goals (first | rfl | (simp; omega) | (simp; done) | omega)))
  try simp only [Act.put, sa7, sb7, sc7]
  refine wtk7 (i := 12) (v := ?v313) (ga7 rfl) (by kernel_rfl) (fun _ _ _ h => h) ⟨by rfl, ?hy313⟩ (by assumption) ?rest313
  case hy313 => (intro wq hSw; (try simp only [Two, Kn, Facts, CellsAt] at hSw); go_simp; try with_reducible rfl)
  try simp only [Act.put, sa7, sb7, sc7]
  refine wpAnyH_done (by kernel_rfl) ?fin300 _
  have M1 := M0.out.drew
  have n1 : r ≠ w.heap.size + 1 := by omega
  have n2 : gl ≠ w.heap.size + 1 := by omega
  clear hHeld K0 M0
  obtain ⟨wm, hwm⟩ : ∃ wm, wm = (((w.alloc (.cells #[.int .i64 K, .bool u, .int .u64 qh, .int .u64 ql, .int .i64 cq, .int .i64 ((i : Int) + 1)] 69)).alloc (.cells #[.bool false, .int .u64 0, .int .u64 0, .int .i64 0] 28))).drew := ⟨_, rfl⟩
  rw [← hwm] at M1
  go_upto_region 2 with fail
  rw [← hwm]
  clear hwm
  obtain ⟨BD, x', y', z', q', ZB⟩ := M1.2.out
  obtain ⟨t0, t1, t2, t3, t4, t5, t6, t7, t8⟩ := ZB.four
  have ZP := ZB.put4 (.bool v) (.int .u64 rh) (.int .u64 rl) (.int .i64 k)
  have HMX := (M1.put n1 n2 (.bool v) (.int .u64 rh) (.int .u64 rl) (.int .i64 k)).drew
  have BX := hide HMX.2.out.1
  obtain ⟨z0, z1, z2, z3, z4, z5, z6, z7, z8⟩ := ZP.four
  clear ZB BD ZP
  refine wp_region_held_drew (S := (MX w r gl cap N i v rh rl k ((i : Int) + 1))) (by kernel_rfl) ?hS5001 (fun hHeld => ?rest5001)
  case hS5001 => (first | with_reducible exact M1.drew | with_reducible exact HMX)
  refine wtk7 (i := 0) (v := ?v5002) (ga7 rfl) (by kernel_rfl) (fun _ _ _ h => h) ⟨by rfl, ?hy5002⟩ (by assumption) ?rest5002
  case hy5002 => (intro wq hSw; (try simp only [Two, MX] at hSw); go_simp; try with_reducible rfl)
  try simp only [Act.put, sa7, sb7, sc7]
  refine wtk7 (i := 1) (v := ?v5003) (ga7 rfl) (by kernel_rfl) (fun _ _ _ h => h) ⟨by rfl, ?hy5003⟩ (by assumption) ?rest5003
  case hy5003 => (intro wq hSw; (try simp only [Two, MX] at hSw); go_simp; try with_reducible rfl)
  try simp only [Act.put, sa7, sb7, sc7]
  refine wtk7 (i := 2) (v := ?v5004) (ga7 rfl) (by kernel_rfl) (fun _ _ _ h => h) ⟨by rfl, ?hy5004⟩ (by assumption) ?rest5004
  case hy5004 => (intro wq hSw; (try simp only [Two, MX] at hSw); go_simp; try with_reducible rfl)
  try simp only [Act.put, sa7, sb7, sc7]
  refine wtk7 (i := 3) (v := ?v5005) (ga7 rfl) (by kernel_rfl) (fun _ _ _ h => h) ⟨by rfl, ?hy5005⟩ (by assumption) ?rest5005
  case hy5005 => (intro wq hSw; (try simp only [Two, MX] at hSw); go_simp; try with_reducible rfl)
  try simp only [Act.put, sa7, sb7, sc7]
  refine wtk7 (i := 4) (v := ?v5006) (ga7 rfl) (by kernel_rfl) (fun _ _ _ h => h) ⟨by rfl, ?hy5006⟩ (by assumption) ?rest5006
  case hy5006 => (intro wq hSw; (try simp only [Two, MX] at hSw); go_simp; try with_reducible rfl)
  try simp only [Act.put, sa7, sb7, sc7]
  refine wtk7 (i := 5) (v := ?v5007) (ga7 rfl) (by kernel_rfl) (fun _ _ _ h => h) ⟨by rfl, ?hy5007⟩ (by assumption) ?rest5007
  case hy5007 => (intro wq hSw; (try simp only [Two, MX] at hSw); go_simp; try with_reducible rfl)
  try simp only [Act.put, sa7, sb7, sc7]
  refine wtk7 (i := 6) (v := ?v5008) (ga7 rfl) (by kernel_rfl) (fun _ _ _ h => h) ⟨by rfl, ?hy5008⟩ (by assumption) ?rest5008
  case hy5008 => (intro wq hSw; (try simp only [Two, MX] at hSw); go_simp; try with_reducible rfl)
  try simp only [Act.put, sa7, sb7, sc7]
  refine wtk7 (i := 7) (v := ?v5009) (ga7 rfl) (by kernel_rfl) (fun _ _ _ h => h) ⟨by rfl, ?hy5009⟩ (by assumption) ?rest5009
  case hy5009 => (intro wq hSw; (try simp only [Two, MX] at hSw); go_simp; try with_reducible rfl)
  try simp only [Act.put, sa7, sb7, sc7]
  refine wtk7 (i := 8) (v := ?v5010) (ga7 rfl) (by kernel_rfl) (fun _ _ _ h => h) ⟨by rfl, ?hy5010⟩ (by assumption) ?rest5010
  case hy5010 => (intro wq hSw; (try simp only [Two, MX] at hSw); go_simp; try with_reducible rfl)
  try simp only [Act.put, sa7, sb7, sc7]
  refine wpAnyH_ready (rs := [9]) (by kernel_rfl) (by simp) ?rdy5011
  refine (AllReadyH.cons (ga7 rfl) (fun K hK => ?stp5011_9) AllReadyH.nil)
  case stp5011_9 =>
    go_simp
    go_wp2_with fail
    refine hK.out _ _ ?hSn5012 (fun hHeld2 => ?rest5012)
    case hSn5012 => (first | with_reducible exact M1.drew | with_reducible exact HMX)
    clear hK K hHeld
    have hHeld := hHeld2
    clear hHeld2
    try simp only [Act.put, sa7, sb7, sc7]
    refine wpAnyH_done (by kernel_rfl) ?_ _
    go_wp2
    refine bodyPost_ret (v := pv v rh rl k) (by simp [results, Tryz.results33, go_sem, World.cell?_setCell_same', World.cell?_setCell_other, *]) rfl ⟨v, rh, rl, _, k, HB.out, rfl, BX.out⟩

theorem aim_c {v u : Bool} {h l b k K qh ql cq A : Int} {r gl cap gu n m N c : Nat} {f : Nat → Bool} (O : SetOf v h l b k n N) (hq : IsNum qh ql m) (w : World) (R : RAt w v h l b k r gl cap gu n N f c) :
    Calls Tryz.prog 33 #[.pointer (some ⟨r, 0, none⟩), .agg #[.int .i64 K, .bool u, .int .u64 qh, .int .u64 ql, .int .i64 cq, .int .i64 A]] w fun e w' => PfxRet w e w' := by
  by_cases c1 : A > 0
  · by_cases c2 : A ≤ (N : Int)
    · obtain ⟨i, rfl⟩ : ∃ i : Nat, A = (i : Int) + 1 := ⟨(A - 1).toNat, by omega⟩
      have hi : i < N := by omega
      exact aim_in hi O.small rfl rfl (num_parts7 (blk_ok O.cut O.num.lt (by rw [O.len]; exact hi)).2) w R
    · exact aim_out hq c1 c2 w R
  · exact aim_zero hq c1 w R

/-- What a round of Same reads. -/
def SX (w : World) (B1 B2 o : Nat) (v : Bool) (rh rl k : Int) (W : World) : Prop :=
  (W.cell? ⟨B1, o, none⟩ = some (.bool v) ∧ W.cell? ⟨B1, o + 1, none⟩ = some (.int .u64 rh) ∧ W.cell? ⟨B1, o + 2, none⟩ = some (.int .u64 rl) ∧ W.cell? ⟨B1, o + 3, none⟩ = some (.int .i64 k) ∧ W.cell? ⟨B2, o, none⟩ = some (.bool v) ∧ W.cell? ⟨B2, o + 1, none⟩ = some (.int .u64 rh) ∧ W.cell? ⟨B2, o + 2, none⟩ = some (.int .u64 rl) ∧ W.cell? ⟨B2, o + 3, none⟩ = some (.int .i64 k)) ∧ Hid (Below w.heap.size w W)

theorem SX.drew {w : World} {B1 B2 o : Nat} {v : Bool} {rh rl k : Int} {W : World} (s : SX w B1 B2 o v rh rl k W) : SX w B1 B2 o v rh rl k W.drew := ⟨s.1, s.2.out.drew⟩

set_option maxRecDepth 100000 in
set_option maxHeartbeats 1600000 in
theorem same7_c {v : Bool} {n : Nat} {k : Int} {gs : List Nat} {u1 u2 : Value} {c1 c2 : Nat} (hl : gs.length ≤ 65536) (w : World) (h1 : w.ownsRow c1 28 4 u1 gs.length (cellsQ v n k gs)) (h2 : w.ownsRow c2 28 4 u2 gs.length (cellsQ v n k gs)) :
    Calls Tryz.prog 37 #[u1, u2] w fun e w' => e = .returned (.bool true) ∧ Below w.heap.size w w' := by
  obtain ⟨x1, d1, rfl, r1⟩ := row_at8 h1
  obtain ⟨x2, d2, rfl, r2⟩ := row_at8 h2
  have R1 := hide r1
  have R2 := hide r2
  obtain ⟨L, hL⟩ : ∃ L, gs.length = L := ⟨_, rfl⟩
  have HL := hide hL
  rw [hL] at hl ⊢
  clear h1 h2 r1 r2 hL
  go_enter Tryz.func37, Tryz.ntmps37
  go_wp2_with fail
  go_loopw [5] (fun iv wr => ∃ j : Nat, j ≤ L ∧ iv = .int .i64 j ∧ Hid (Below w.heap.size w wr)) (fun iv _ => L - (intOf iv).toNat)
  case atStart => exact ⟨0, by omega, rfl, Below.refl _ _⟩
  case round =>
    obtain ⟨j, hj, rfl, B⟩ := hrel
    by_cases hlt : j < L
    · have hlt' : (j : Int) < L := by omega
      have hjg : j < gs.length := by rw [HL.out]; exact hlt
      obtain ⟨B1, rfl, a0, a1, a2, a3⟩ := R1.out j hjg
      obtain ⟨B2, rfl, b0, b1, b2, b3⟩ := R2.out j hjg
      obtain ⟨rh, hrh⟩ : ∃ rh : Int, ((blkN v n k gs[j] / 18446744073709551616 : Nat) : Int) = rh := ⟨_, rfl⟩
      obtain ⟨rl, hrl⟩ : ∃ rl : Int, ((blkN v n k gs[j] % 18446744073709551616 : Nat) : Int) = rl := ⟨_, rfl⟩
      rw [hrh] at a1 b1
      rw [hrl] at a2 b2
      have BB := B
      have e : ∀ {B o v}, w.cell? ⟨B, o, none⟩ = some v → wr.cell? ⟨B, o, none⟩ = some v := fun {B o v} hh => ((bcell BB.out).1 _ o (cell_in8 hh)).trans hh
      have S0 : SX w B1 B2 (j * 4) v rh rl k wr := ⟨⟨e a0, e a1, e a2, e a3, e b0, e b1, e b2, e b3⟩, B.out⟩
      clear a0 a1 a2 a3 b0 b1 b2 b3 hrh hrl e B
      go_wp2_with fail
      refine wp_region_held_drew (S := (SX w B1 B2 (j * 4) v rh rl k)) (by kernel_rfl) ?hS400 (fun hHeld => ?rest400)
      case hS400 => (first | with_reducible exact S0.drew)
      refine wtk7 (i := 0) (v := ?v401) (ga7 rfl) (by kernel_rfl) (fun _ _ _ h => h) ⟨by rfl, ?hy401⟩ (by assumption) ?rest401
      case hy401 => (intro wq hSw; (try simp only [Two, SX] at hSw); go_simp; try with_reducible rfl)
      try simp only [Act.put, sa7, sb7, sc7]
      refine wtk7 (i := 1) (v := ?v402) (ga7 rfl) (by kernel_rfl) (fun _ _ _ h => h) ⟨by rfl, ?hy402⟩ (by assumption) ?rest402
      case hy402 => (intro wq hSw; (try simp only [Two, SX] at hSw); go_simp; try with_reducible rfl)
      try simp only [Act.put, sa7, sb7, sc7]
      refine wtk7 (i := 2) (v := ?v403) (ga7 rfl) (by kernel_rfl) (fun _ _ _ h => h) ⟨by rfl, ?hy403⟩ (by assumption) ?rest403
      case hy403 => (intro wq hSw; (try simp only [Two, SX] at hSw); go_simp; try with_reducible rfl)
      try simp only [Act.put, sa7, sb7, sc7]
      refine wtk7 (i := 3) (v := ?v404) (ga7 rfl) (by kernel_rfl) (fun _ _ _ h => h) ⟨by rfl, ?hy404⟩ (by assumption) ?rest404
      case hy404 => (intro wq hSw; (try simp only [Two, SX] at hSw); go_simp; try with_reducible rfl)
      try simp only [Act.put, sa7, sb7, sc7]
      refine wtk7 (i := 4) (v := ?v405) (ga7 rfl) (by kernel_rfl) (fun _ _ _ h => h) ⟨by rfl, ?hy405⟩ (by assumption) ?rest405
      case hy405 => (intro wq hSw; (try simp only [Two, SX] at hSw); go_simp; try with_reducible rfl)
      try simp only [Act.put, sa7, sb7, sc7]
      refine wtk7 (i := 5) (v := ?v406) (ga7 rfl) (by kernel_rfl) (fun _ _ _ h => h) ⟨by rfl, ?hy406⟩ (by assumption) ?rest406
      case hy406 => (intro wq hSw; (try simp only [Two, SX] at hSw); go_simp; try with_reducible rfl)
      try simp only [Act.put, sa7, sb7, sc7]
      refine wtk7 (i := 6) (v := ?v407) (ga7 rfl) (by kernel_rfl) (fun _ _ _ h => h) ⟨by rfl, ?hy407⟩ (by assumption) ?rest407
      case hy407 => (intro wq hSw; (try simp only [Two, SX] at hSw); go_simp; try with_reducible rfl)
      try simp only [Act.put, sa7, sb7, sc7]
      refine wtk7 (i := 7) (v := ?v408) (ga7 rfl) (by kernel_rfl) (fun _ _ _ h => h) ⟨by rfl, ?hy408⟩ (by assumption) ?rest408
      case hy408 => (intro wq hSw; (try simp only [Two, SX] at hSw); go_simp; try with_reducible rfl)
      try simp only [Act.put, sa7, sb7, sc7]
      refine wtk7 (i := 8) (v := (Value.bool false)) (ga7 rfl) (by kernel_rfl) (fun _ _ _ h => h) ⟨by rfl, ?hy409⟩ (by assumption) ?rest409
      case hy409 => (intro wq hSw; (try simp only [Two, SX] at hSw); go_simp; (all_goals (first | rfl | simp [*])))
      try simp only [Act.put, sa7, sb7, sc7]
      refine wpAnyH_done (by kernel_rfl) ?fin400 _
      have B2 := hide hHeld.2.out
      clear hHeld S0
      go_wp2
      go_roundw
      case rel => exact ⟨j + 1, by omega, by go_num, B2⟩
      case measure => simp [intOf]; omega
    · obtain rfl : j = L := by omega
      have hlt' : ¬ (j : Int) < j := by omega
      go_wp2
      go_ret
      exact ⟨rfl, B.out⟩
end Go.Proofs.YtllidkflgjjkfaaGreatDoor

namespace Go.Proofs.YtllidkflgjjkfaaGreatDoor
open Go.ChangeShapes Go.WideShapes Go.ChangeAt Go.RowKit
set_option linter.unusedVariables false
set_option linter.unusedSimpArgs false

/-- The first of the numbers at which something holds. -/
theorem least_at7 {P : Nat → Bool} : ∀ m, (∃ j, j ≤ m ∧ P j = true) → ∃ k, k ≤ m ∧ P k = true ∧ ∀ j, j < k → P j = false
  | 0, ⟨j, h1, h2⟩ => by
    obtain rfl : j = 0 := by omega
    exact ⟨0, Nat.le_refl _, h2, fun j hj => absurd hj (by omega)⟩
  | m + 1, ⟨j, h1, h2⟩ => by
    by_cases d : ∃ j, j ≤ m ∧ P j = true
    · obtain ⟨k, k1, k2, k3⟩ := least_at7 m d
      exact ⟨k, by omega, k2, k3⟩
    · have e : j = m + 1 := by
        apply Classical.byContradiction
        intro e
        exact d ⟨j, by omega, h2⟩
      refine ⟨m + 1, Nat.le_refl _, e ▸ h2, fun q hq => ?_⟩
      cases hq2 : P q
      · rfl
      · exact absurd ⟨q, by omega, hq2⟩ d

/-- How far the next one is. -/
theorem next_far {f : Nat → Bool} {N s i : Nat} (hs : s < N) (hn : nextF f N s = some i) : ∃ k, k < N ∧ i = (s + k) % N ∧ ∀ j, j < k → f ((s + j) % N) = true := by
  obtain ⟨hi, hf⟩ := nextF_is hs hn
  obtain ⟨K, hK, hKi⟩ : ∃ K, K < N ∧ (s + K) % N = i := by
    by_cases c : s ≤ i
    · exact ⟨i - s, by omega, by rw [show s + (i - s) = i by omega]; exact Nat.mod_eq_of_lt hi⟩
    · refine ⟨N - s + i, by omega, ?_⟩
      rw [show s + (N - s + i) = i + N by omega, Nat.add_mod_right]
      exact Nat.mod_eq_of_lt hi
  obtain ⟨k, k1, k2, k3⟩ := least_at7 (P := fun k => !f ((s + k) % N)) K ⟨K, Nat.le_refl _, by rw [hKi, hf]; rfl⟩
  have k2' : f ((s + k) % N) = false := by simpa using k2
  have := nextF_round (f := f) (n := N) (s := s) (k := k) (i := (s + k) % N) hs (by omega) rfl (fun j hj => by simpa using k3 j hj) k2'
  rw [hn] at this
  exact ⟨k, by omega, Option.some.inj this, fun j hj => by simpa using k3 j hj⟩

set_option maxRecDepth 100000 in
set_option maxHeartbeats 1600000 in
theorem rnext_full {v : Bool} {h l b k : Int} {r gl cap gu n N c : Nat} {f : Nat → Bool} (hN : N ≤ 65536) (hf : nextF f N c = none) (w : World) (R : RAt w v h l b k r gl cap gu n N f c) :
    Calls Tryz.prog 82 #[.pointer (some ⟨r, 0, none⟩)] w fun e w' => e = .returned (.tuple #[pv false 0 0 0, .int .i64 9]) ∧ Below w.heap.size w w' := by
  have bl : Below w.heap.size w (w.alloc (.cells #[.bool false, .int .u64 0, .int .u64 0, .int .i64 0] 28)) := by repeat (first | with_reducible exact Below.refl _ _ | with_reducible refine Below.drew ?_ | with_reducible refine Below.alloc ?_ (by first | omega | (simp <;> omega)) _ | with_reducible refine Below.setCell ?_ (by first | omega | (simp <;> omega)) _)
  have R0 := hide (R.below bl)
  have Z0 := hide (Blk.new w #[.bool false, .int .u64 0, .int .u64 0, .int .i64 0] 28)
  have B0 := hide bl
  have AL := hide (nextF_none R.cur hf)
  have cN := R.cur
  have hz : ((N : Int) == 0) = false := by simp; omega
  obtain ⟨x0, x1, x2, x3, x4, x5, x6, x7, xl⟩ := R.hd.eight
  clear bl R hf
  go_enter Tryz.func82, Tryz.ntmps82
  go_wp2_with fail
  go_loopw [5] (fun kv wr => ∃ j : Nat, j ≤ N ∧ kv = .int .i64 j ∧ Hid (RAt wr v h l b k r gl cap gu n N f c) ∧ Hid (Blk wr w.heap.size #[.bool false, .int .u64 0, .int .u64 0, .int .i64 0] 28) ∧ Hid (Below w.heap.size w wr)) (fun kv _ => N - (intOf kv).toNat)
  case atStart => exact ⟨0, by omega, rfl, R0, Z0, B0⟩
  case round =>
    clear R0 Z0 B0 x0 x1 x2 x3 x4 x5 x6 x7
    obtain ⟨j, hj, rfl, R1, Z1, B1⟩ := hrel
    by_cases hlt : j < N
    · have hlt' : (j : Int) < N := by omega
      obtain ⟨y0, y1, y2, y3, y4, y5, y6, y7, yl⟩ := R1.out.hd.eight
      obtain ⟨q, hq⟩ : ∃ q, (c + j) % N = q := ⟨_, rfl⟩
      have qN : q < N := hq ▸ Nat.mod_lt _ (by omega)
      have qN' : (q : Int) < N := by omega
      have hm : ((c : Int) + (j : Int)) % (N : Int) = (q : Int) := by
        rw [← hq]
        have : ((c : Int) + (j : Int)) = ((c + j : Nat) : Int) := by omega
        rw [this]
        exact (Int.natCast_emod _ _).symm
      have g := R1.out.get qN
      rw [AL.out q qN] at g
      clear hq
      go_wp2
      go_roundw
      case rel => exact ⟨j + 1, by omega, by go_num, R1, Z1, B1⟩
      case measure => simp [intOf]; omega
    · have hlt' : ¬ (j : Int) < N := by omega
      obtain ⟨z0, z1, z2, z3, z4, z5, z6, z7, z8⟩ := Z1.out.four
      have B := B1.out
      have hs := B.size
      clear R1 Z1 B1 AL
      go_wp2
      refine bodyPost_ret (v := .tuple #[pv false 0 0 0, .int .i64 9]) (by simp [results, Tryz.results82, go_sem, World.cell?_setCell_same', World.cell?_setCell_other, *]) rfl ⟨rfl, by repeat (first | with_reducible exact Below.refl _ _ | with_reducible refine Below.drew ?_ | with_reducible refine Below.alloc ?_ (by first | omega | (simp <;> omega)) _ | with_reducible refine Below.setCell ?_ (by first | omega | (simp <;> omega)) _ | with_reducible refine Below.trans ?_ (Below.mono B (by first | omega | (simp <;> omega))))⟩

set_option maxRecDepth 100000 in
set_option maxHeartbeats 3200000 in
theorem rnext_ok7 {v : Bool} {h l b k rh rl : Int} {r gl cap gu n N c p : Nat} {f : Nat → Bool} (hN : N ≤ 65536) (hf : nextF f N c = some p) (hrh : ((blkN v n k p / 18446744073709551616 : Nat) : Int) = rh) (hrl : ((blkN v n k p % 18446744073709551616 : Nat) : Int) = rl) (w : World) (R : RAt w v h l b k r gl cap gu n N f c) :
    Calls Tryz.prog 82 #[.pointer (some ⟨r, 0, none⟩)] w fun e w' => e = .returned (.tuple #[pv v rh rl k, .int .i64 0]) ∧ RAt w' v h l b k r gl cap gu n N (upd f p true) ((p + 1) % N) ∧ But [gu, r] w.heap.size w w' := by
  have bl : Below w.heap.size w (w.alloc (.cells #[.bool false, .int .u64 0, .int .u64 0, .int .i64 0] 28)) := by repeat (first | with_reducible exact Below.refl _ _ | with_reducible refine Below.drew ?_ | with_reducible refine Below.alloc ?_ (by first | omega | (simp <;> omega)) _ | with_reducible refine Below.setCell ?_ (by first | omega | (simp <;> omega)) _)
  have R0 := hide (R.below bl)
  have Z0 := hide (Blk.new w #[.bool false, .int .u64 0, .int .u64 0, .int .i64 0] 28)
  have B0 := hide bl
  obtain ⟨K, K1, K2, K3⟩ := next_far R.cur hf
  obtain ⟨pN, pf⟩ := nextF_is R.cur hf
  have KH := hide K3
  have cN := R.cur
  have LT := R.lt
  have hz : ((N : Int) == 0) = false := by simp; omega
  obtain ⟨x0, x1, x2, x3, x4, x5, x6, x7, xl⟩ := R.hd.eight
  obtain ⟨c2, hc2⟩ : ∃ c2, (p + 1) % N = c2 := ⟨_, rfl⟩
  have c2N : c2 < N := hc2 ▸ Nat.mod_lt _ (by omega)
  have hm2 : ((p : Int) + 1) % (N : Int) = (c2 : Int) := by
    rw [← hc2]
    have : ((p : Int) + 1) = ((p + 1 : Nat) : Int) := by omega
    rw [this]
    exact (Int.natCast_emod _ _).symm
  rw [hc2]
  have PF := hide pf
  have PK := hide K2
  clear bl R hf K3 pf hc2 K2
  go_enter Tryz.func82, Tryz.ntmps82
  go_wp2_with fail
  go_loopw [5] (fun kv wr => ∃ j : Nat, j ≤ K ∧ kv = .int .i64 j ∧ Hid (RAt wr v h l b k r gl cap gu n N f c) ∧ Hid (Blk wr w.heap.size #[.bool false, .int .u64 0, .int .u64 0, .int .i64 0] 28) ∧ Hid (Below w.heap.size w wr)) (fun kv _ => N - (intOf kv).toNat)
  case atStart => exact ⟨0, by omega, rfl, R0, Z0, B0⟩
  case round =>
    clear R0 Z0 B0 x0 x1 x2 x3 x4 x5 x6 x7
    obtain ⟨j, hj, rfl, R1, Z1, B1⟩ := hrel
    have hlt' : (j : Int) < N := by omega
    obtain ⟨y0, y1, y2, y3, y4, y5, y6, y7, yl⟩ := R1.out.hd.eight
    by_cases hlt : j < K
    · obtain ⟨q, hq⟩ : ∃ q, (c + j) % N = q := ⟨_, rfl⟩
      have qN : q < N := hq ▸ Nat.mod_lt _ (by omega)
      have qN' : (q : Int) < N := by omega
      have hm : ((c : Int) + (j : Int)) % (N : Int) = (q : Int) := by
        rw [← hq]
        have : ((c : Int) + (j : Int)) = ((c + j : Nat) : Int) := by omega
        rw [this]
        exact (Int.natCast_emod _ _).symm
      have g := R1.out.get qN
      have kt := KH.out j hlt
      rw [hq] at kt
      rw [kt] at g
      clear hq kt hm2
      go_wp2
      go_roundw
      case rel => exact ⟨j + 1, by omega, by go_num, R1, Z1, B1⟩
      case measure => simp [intOf]; omega
    · obtain rfl : j = K := by omega
      have pN' : (p : Int) < N := by omega
      have hm : ((c : Int) + (j : Int)) % (N : Int) = (p : Int) := by
        rw [PK.out]
        have : ((c : Int) + (j : Int)) = ((c + j : Nat) : Int) := by omega
        rw [this]
        exact (Int.natCast_emod _ _).symm
      have g := R1.out.get pN
      rw [PF.out] at g
      have g9 := R1.out.used.frozen p
      have y9 := R1.out.hd.frozen 7
      obtain ⟨l0, l1, l2, l3⟩ := R1.out.at pN
      rw [hrh] at l1
      rw [hrl] at l2
      obtain ⟨z0, z1, z2, z3, z4, z5, z6, z7, z8⟩ := Z1.out.four
      have ne := R1.out.ne
      obtain ⟨n1, n2, n3⟩ := ne
      have f1 : w.heap.size ≠ r := by omega
      have f2 : w.heap.size ≠ gl := by omega
      have f3 : w.heap.size ≠ gu := by omega
      have RF := hide (((R1.out.put p true).move c2N))
      have BF := hide (((But.of (L := [gu, r]) B1.out (Nat.le_refl _)).trans ((But.putx gu p (.bool true) wr w.heap.size).mono (Nat.le_refl _) (fun y hy _ => by simp at hy ⊢; exact Or.inl hy))).trans ((But.putx r 7 (.int .i64 (c2 : Int)) (wr.setCell ⟨gu, p, none⟩ (.bool true)) w.heap.size).mono (Nat.le_refl _) (fun y hy _ => by simp at hy ⊢; exact Or.inr hy)))
      have E : ∀ a0 a1 a2 a3 : Value, RAt ((((((wr.setCell ⟨gu, p, none⟩ (.bool true)).setCell ⟨r, 7, none⟩ (.int .i64 (c2 : Int))).setCell ⟨w.heap.size, 0, none⟩ a0).setCell ⟨w.heap.size, 1, none⟩ a1).setCell ⟨w.heap.size, 2, none⟩ a2).setCell ⟨w.heap.size, 3, none⟩ a3) v h l b k r gl cap gu n N (upd f p true) c2 ∧ But [gu, r] w.heap.size w ((((((wr.setCell ⟨gu, p, none⟩ (.bool true)).setCell ⟨r, 7, none⟩ (.int .i64 (c2 : Int))).setCell ⟨w.heap.size, 0, none⟩ a0).setCell ⟨w.heap.size, 1, none⟩ a1).setCell ⟨w.heap.size, 2, none⟩ a2).setCell ⟨w.heap.size, 3, none⟩ a3) := fun a0 a1 a2 a3 =>
        ⟨(((RF.out.far f1.symm f2.symm f3.symm 0 a0).far f1.symm f2.symm f3.symm 1 a1).far f1.symm f2.symm f3.symm 2 a2).far f1.symm f2.symm f3.symm 3 a3, BF.out.trans (But.of (C := w.heap.size) (by repeat (first | with_reducible exact Below.refl _ _ | with_reducible refine Below.drew ?_ | with_reducible refine Below.alloc ?_ (by first | omega | (simp <;> omega)) _ | with_reducible refine Below.setCell ?_ (by first | omega | (simp <;> omega)) _)) (Nat.le_refl _))⟩
      have EH := hide E
      have m1 := n1.symm
      have m2 := n2.symm
      have m3 := n3.symm
      clear R1 Z1 B1 RF BF E KH PF PK
      go_wp2
      refine bodyPost_ret (v := .tuple #[pv v rh rl k, .int .i64 0]) (by simp [results, Tryz.results82, go_sem, World.cell?_setCell_same', World.cell?_setCell_other, *]) rfl ⟨rfl, EH.out _ _ _ _⟩
end Go.Proofs.YtllidkflgjjkfaaGreatDoor
