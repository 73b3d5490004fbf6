/-
  Texts SeT4 of the proof.
-/
import Derived.Test.YtllidkflgjjkfaaGreatDoorC46
import Derived.Test.YtllidkflgjjkfaaGreatDoorC45

namespace Go.Proofs.YtllidkflgjjkfaaGreatDoor
open Go.ChangeShapes Go.WideShapes Go.ChangeAt Go.RowKit
set_option linter.unusedVariables false
set_option linter.unusedSimpArgs false

theorem hasT (P : Prop) : ∃ T : Bool, (T = true ↔ P) := by
  classical
  exact ⟨decide P, by simp⟩

theorem has_p {w W : World} {L : List (Nat × List Value × TypeId)} {v u : Bool} {h l b k qh ql cq : Int} {x a g r gl cap gu n m N c c2 : Nat} {f f2 : Nat → Bool} {T : Bool} (O : SetOf v h l b k n N) (hq : IsNum qh ql m) (hB : T = true ↔ ∃ p, f p = true ∧ ovP v n k N u m cq p = true) (S : PSt w L v h l b k x a g r gl cap gu n N f c f2 c2 W) :
    Calls Tryz.prog 34 #[.pointer (some ⟨x, 0, none⟩), pv u qh ql cq] W fun e W' => e = .returned (.bool T) ∧ Below W.heap.size W W' ∧ PSt w L v h l b k x a g r gl cap gu n N f c f2 c2 W' := by
  refine (shas_c O hq hB W S.p).mono ?_
  rintro e W' ⟨rfl, hb⟩
  exact ⟨rfl, hb, S.below hb⟩

theorem rhas_p {w W : World} {L : List (Nat × List Value × TypeId)} {v u : Bool} {h l b k qh ql cq : Int} {x a g r gl cap gu n m N c c2 : Nat} {f f2 : Nat → Bool} {T : Bool} (O : SetOf v h l b k n N) (hq : IsNum qh ql m) (hB : T = true ↔ ∃ p, f2 p = true ∧ ovP v n k N u m cq p = true) (S : PSt w L v h l b k x a g r gl cap gu n N f c f2 c2 W) :
    Calls Tryz.prog 35 #[.pointer (some ⟨r, 0, none⟩), pv u qh ql cq] W fun e W' => e = .returned (.bool T) ∧ Below W.heap.size W W' ∧ PSt w L v h l b k x a g r gl cap gu n N f c f2 c2 W' := by
  refine (rhas7_c O hq hB W S.rr).mono ?_
  rintro e W' ⟨rfl, _, _, hb⟩
  exact ⟨rfl, hb, S.below hb⟩

/-- What a round of the law reads: a prefix of its own. -/
def QX (Q : Nat) (u : Bool) (qh ql cq : Int) (w : World) (L : List (Nat × List Value × TypeId)) (v : Bool) (h l b k : Int) (x a g r gl cap gu n N : Nat) (f : Nat → Bool) (c : Nat) (W : World) : Prop :=
  (W.cell? ⟨Q, 0, none⟩ = some (.bool u) ∧ W.cell? ⟨Q, 1, none⟩ = some (.int .u64 qh) ∧ W.cell? ⟨Q, 2, none⟩ = some (.int .u64 ql) ∧ W.cell? ⟨Q, 3, none⟩ = some (.int .i64 cq)) ∧ Hid (PSt w ((Q, [.bool u, .int .u64 qh, .int .u64 ql, .int .i64 cq], 28) :: L) v h l b k x a g r gl cap gu n N f c f c W)

theorem QX.of {Q : Nat} {u : Bool} {qh ql cq : Int} {w : World} {L : List (Nat × List Value × TypeId)} {v : Bool} {h l b k : Int} {x a g r gl cap gu n N : Nat} {f : Nat → Bool} {c : Nat} {W : World} (S : PSt w ((Q, [.bool u, .int .u64 qh, .int .u64 ql, .int .i64 cq], 28) :: L) v h l b k x a g r gl cap gu n N f c f c W) : QX Q u qh ql cq w L v h l b k x a g r gl cap gu n N f c W :=
  ⟨⟨S.kn.2.1.1.cell 0, S.kn.2.1.1.cell 1, S.kn.2.1.1.cell 2, S.kn.2.1.1.cell 3⟩, S⟩

theorem QX.below {Q : Nat} {u : Bool} {qh ql cq : Int} {w : World} {L : List (Nat × List Value × TypeId)} {v : Bool} {h l b k : Int} {x a g r gl cap gu n N : Nat} {f : Nat → Bool} {c : Nat} {W W' : World} (s : QX Q u qh ql cq w L v h l b k x a g r gl cap gu n N f c W) (q : Below W.heap.size W W') : QX Q u qh ql cq w L v h l b k x a g r gl cap gu n N f c W' := QX.of (s.2.out.below q)

theorem QX.drew {Q : Nat} {u : Bool} {qh ql cq : Int} {w : World} {L : List (Nat × List Value × TypeId)} {v : Bool} {h l b k : Int} {x a g r gl cap gu n N : Nat} {f : Nat → Bool} {c : Nat} {W : World} (s : QX Q u qh ql cq w L v h l b k x a g r gl cap gu n N f c W) : QX Q u qh ql cq w L v h l b k x a g r gl cap gu n N f c W.drew := s.below (by repeat (first | with_reducible exact Below.refl _ _ | with_reducible refine Below.drew ?_ | with_reducible refine Below.alloc ?_ (by first | omega | (simp <;> omega)) _ | with_reducible refine Below.setCell ?_ (by first | omega | (simp <;> omega)) _))

/-- What the law's last statement reads. -/
def YX (w : World) (v : Bool) (h l b k : Int) (x a g r gl cap gu n N : Nat) (f : Nat → Bool) (c : Nat) (B0 : Nat) (uv : Value) (W : World) : Prop :=
  (W.cell? ⟨r, 5, none⟩ = some (.slice (some ⟨gl, 0, none⟩) N cap) ∧ W.cell? ⟨w.heap.size, 0, none⟩ = some (.bool v) ∧ W.cell? ⟨w.heap.size, 1, none⟩ = some (.int .u64 h) ∧ W.cell? ⟨w.heap.size, 2, none⟩ = some (.int .u64 l) ∧ W.cell? ⟨w.heap.size, 3, none⟩ = some (.int .i64 b)) ∧ Hid (PSt w [(w.heap.size, [.bool v, .int .u64 h, .int .u64 l, .int .i64 b], 28)] v h l b k x a g r gl cap gu n N f c f c W ∧ W.ownsRow B0 28 4 uv (usedL f N).length (cellsQ v n k (usedL f N)))

theorem YX.of {w : World} {v : Bool} {h l b k : Int} {x a g r gl cap gu n N : Nat} {f : Nat → Bool} {c : Nat} {B0 : Nat} {uv : Value} {W : World} (S : PSt w [(w.heap.size, [.bool v, .int .u64 h, .int .u64 l, .int .i64 b], 28)] v h l b k x a g r gl cap gu n N f c f c W) (o : W.ownsRow B0 28 4 uv (usedL f N).length (cellsQ v n k (usedL f N))) : YX w v h l b k x a g r gl cap gu n N f c B0 uv W :=
  ⟨⟨S.rr.hd.cell 5, S.kn.2.1.1.cell 0, S.kn.2.1.1.cell 1, S.kn.2.1.1.cell 2, S.kn.2.1.1.cell 3⟩, ⟨S, o⟩⟩

theorem YX.below {w : World} {v : Bool} {h l b k : Int} {x a g r gl cap gu n N : Nat} {f : Nat → Bool} {c : Nat} {B0 : Nat} {uv : Value} {W W' : World} (s : YX w v h l b k x a g r gl cap gu n N f c B0 uv W) (q : Below W.heap.size W W') : YX w v h l b k x a g r gl cap gu n N f c B0 uv W' := YX.of (s.2.out.1.below q) (own_below s.2.out.2 q)

theorem YX.drew {w : World} {v : Bool} {h l b k : Int} {x a g r gl cap gu n N : Nat} {f : Nat → Bool} {c : Nat} {B0 : Nat} {uv : Value} {W : World} (s : YX w v h l b k x a g r gl cap gu n N f c B0 uv W) : YX w v h l b k x a g r gl cap gu n N f c B0 uv W.drew := s.below (by repeat (first | with_reducible exact Below.refl _ _ | with_reducible refine Below.drew ?_ | with_reducible refine Below.alloc ?_ (by first | omega | (simp <;> omega)) _ | with_reducible refine Below.setCell ?_ (by first | omega | (simp <;> omega)) _))

theorem used8_c {v : Bool} {h l b k : Int} {x a g n N cu : Nat} {f : Nat → Bool} (O : SetOf v h l b k n N) (w : World) (P : SetAt w v h l b k x a g N f cu) :
    Calls Tryz.prog 38 #[.pointer (some ⟨x, 0, none⟩)] w fun e w' => ∃ sv, e = .returned sv ∧ w'.ownsRow w.heap.size 28 4 sv (usedL f N).length (cellsQ v n k (usedL f N)) ∧ Below w.heap.size w w' := by
  refine (sused_c O w P).mono ?_
  rintro e w' ⟨sv, rfl, ho, hb⟩
  rw [← usedL_len, usedL_cells] at ho
  exact ⟨sv, rfl, ho, hb⟩

set_option maxRecDepth 100000 in
set_option maxHeartbeats 1600000 in
theorem bplay_arg {v : Bool} {h l b k : Int} {n len cap : Nat} {xo : Option Addr} (hp : IsNum h l n) (hc : cutB v n b k = false) (w : World) (hL : LW w) (hT : TB w) :
    Calls Tryz.prog 4 #[pv v h l b, .int .i64 k, .slice xo len cap] w fun e w' => e = .returned (.bool true) ∧ Below w.heap.size w w' := by
  have hz := hL.sz
  have K := pfx_start7 w v h l b
  have AW := hide (awake7_c _ (hL.of K.bel hz) (hT.below K.bel))
  have O : True := trivial
  have NW := hide (fun w' => snew_arg hp hc w')
  have SM := hide (fun w' => small7_c (v := v) (b := b) (k := k) hp w')
  have sm : smB v n b k = false := (by unfold smB; rw [hc]; rfl)
  rw [sm] at SM
  have CU := hide (fun w' => rcuts_c (v := v) (b := b) (k := k) hp w')
  rw [hc] at CU
  skip
  have KH := hide K
  clear hL hT hz hp K sm O
  go_enter Tryz.func4, Tryz.ntmps4
  go_wp2_with fail
  refine AW.out.mono ?_
  rintro e w0 ⟨rfl, hb⟩
  have K0 := hide (KH.out.below hb)
  have F := K0.out.1
  simp only [Facts, CellsAt] at F
  clear AW hb KH
  go_wp2_with fail
  refine (NW.out _).mono ?_
  rintro e w1 ⟨rfl, hb⟩
  have K1 := hide (K0.out.below hb)
  have F1 := K1.out.1
  simp only [Facts, CellsAt] at F1
  clear NW hb K0 F
  go_wp2_with fail
  refine (SM.out _).mono ?_
  rintro e w2 ⟨rfl, hb⟩
  have K2 := hide (K1.out.below hb)
  have F2 := K2.out.1
  simp only [Facts, CellsAt] at F2
  clear SM hb K1 F1
  go_wp2_with fail
  refine (CU.out _).mono ?_
  rintro e w3 ⟨rfl, hb⟩
  have K3 := hide (K2.out.below hb)
  have F3 := K3.out.1
  simp only [Facts, CellsAt] at F3
  have B3 := hide K3.out.bel
  clear CU hb K2 F2 K3
  go_wp2
  go_ret
  exact ⟨by first | rfl | simp, B3.out⟩

set_option maxRecDepth 100000 in
set_option maxHeartbeats 1600000 in
theorem bplay_long {v : Bool} {h l b k : Int} {n len cap : Nat} {xo : Option Addr} (hp : IsNum h l n) (hc : cutB v n b k = true) (hk : 16 < (k - b).toNat) (w : World) (hL : LW w) (hT : TB w) :
    Calls Tryz.prog 4 #[pv v h l b, .int .i64 k, .slice xo len cap] w fun e w' => e = .returned (.bool true) ∧ Below w.heap.size w w' := by
  have hz := hL.sz
  have K := pfx_start7 w v h l b
  have AW := hide (awake7_c _ (hL.of K.bel hz) (hT.below K.bel))
  have O : True := trivial
  have NW := hide (fun w' => snew_long hp hc hk w')
  have SM := hide (fun w' => small7_c (v := v) (b := b) (k := k) hp w')
  have sm : smB v n b k = false := (by unfold smB; rw [hc]; obtain ⟨_, b0, b1, b2, _⟩ := cutB_parts hc; rw [decide_eq_false (by omega)]; rfl)
  rw [sm] at SM
  have CU := hide (fun w' => rcuts_c (v := v) (b := b) (k := k) hp w')
  rw [hc] at CU
  (obtain ⟨_, b0, b1, b2, _⟩ := cutB_parts hc; have hW2 := width_le v; have wr : IntKind.i64.wrap (k - b) = k - b := (by simp [IntKind.wrap, IntKind.bits, IntKind.signed]; omega); have c16 : k - b > 16 := (by omega))
  have KH := hide K
  clear hL hT hz hp K sm O
  go_enter Tryz.func4, Tryz.ntmps4
  go_wp2_with fail
  refine AW.out.mono ?_
  rintro e w0 ⟨rfl, hb⟩
  have K0 := hide (KH.out.below hb)
  have F := K0.out.1
  simp only [Facts, CellsAt] at F
  clear AW hb KH
  go_wp2_with fail
  refine (NW.out _).mono ?_
  rintro e w1 ⟨rfl, hb⟩
  have K1 := hide (K0.out.below hb)
  have F1 := K1.out.1
  simp only [Facts, CellsAt] at F1
  clear NW hb K0 F
  go_wp2_with fail
  refine (SM.out _).mono ?_
  rintro e w2 ⟨rfl, hb⟩
  have K2 := hide (K1.out.below hb)
  have F2 := K2.out.1
  simp only [Facts, CellsAt] at F2
  clear SM hb K1 F1
  go_wp2_with fail
  refine (CU.out _).mono ?_
  rintro e w3 ⟨rfl, hb⟩
  have K3 := hide (K2.out.below hb)
  have F3 := K3.out.1
  simp only [Facts, CellsAt] at F3
  have B3 := hide K3.out.bel
  clear CU hb K2 F2 K3
  go_wp2
  go_ret
  exact ⟨by first | rfl | simp, B3.out⟩

set_option maxRecDepth 100000 in
set_option maxHeartbeats 1600000 in
theorem bplay_big {v : Bool} {h l b k : Int} {n len cap : Nat} {xo : Option Addr} (hp : IsNum h l n) (hc : cutB v n b k = true) (hk : ¬ 16 < (k - b).toNat) (hk2 : ¬ k - b ≤ 8) (w : World) (hL : LW w) (hT : TB w) :
    Calls Tryz.prog 4 #[pv v h l b, .int .i64 k, .slice xo len cap] w fun e w' => e = .returned (.bool true) ∧ Below w.heap.size w w' := by
  have hz := hL.sz
  have K := pfx_start7 w v h l b
  have AW := hide (awake7_c _ (hL.of K.bel hz) (hT.below K.bel))
  have O : SetOf v h l b k n (2 ^ (k - b).toNat) := ⟨hp, hc, rfl, (by have le := Nat.pow_le_pow_right (n := 2) (by decide) (show (k - b).toNat ≤ 16 by omega); rw [show (2 : Nat) ^ 16 = 65536 by decide] at le; exact le)⟩
  have NW := hide (fun w' => snew_c O w')
  have SM := hide (fun w' => small7_c (v := v) (b := b) (k := k) hp w')
  have sm : smB v n b k = false := (by unfold smB; rw [hc, decide_eq_false hk2]; rfl)
  rw [sm] at SM
  have CU := hide (fun w' => rcuts_c (v := v) (b := b) (k := k) hp w')
  rw [hc] at CU
  (obtain ⟨_, b0, b1, b2, _⟩ := cutB_parts hc; have hW2 := width_le v; have wr : IntKind.i64.wrap (k - b) = k - b := (by simp [IntKind.wrap, IntKind.bits, IntKind.signed]; omega); have c16 : ¬ k - b > 16 := (by omega))
  have KH := hide K
  clear hL hT hz hp K sm O
  go_enter Tryz.func4, Tryz.ntmps4
  go_wp2_with fail
  refine AW.out.mono ?_
  rintro e w0 ⟨rfl, hb⟩
  have K0 := hide (KH.out.below hb)
  have F := K0.out.1
  simp only [Facts, CellsAt] at F
  clear AW hb KH
  go_wp2_with fail
  refine (NW.out _).mono ?_
  rintro e w1 ⟨x, a, g, rfl, hP, hb, hx, hg, ha⟩
  have K1 := hide (K0.out.below hb)
  have F1 := K1.out.1
  simp only [Facts, CellsAt] at F1
  clear NW hb K0 F
  go_wp2_with fail
  refine (SM.out _).mono ?_
  rintro e w2 ⟨rfl, hb⟩
  have K2 := hide (K1.out.below hb)
  have F2 := K2.out.1
  simp only [Facts, CellsAt] at F2
  clear SM hb K1 F1
  go_wp2_with fail
  refine (CU.out _).mono ?_
  rintro e w3 ⟨rfl, hb⟩
  have K3 := hide (K2.out.below hb)
  have F3 := K3.out.1
  simp only [Facts, CellsAt] at F3
  have B3 := hide K3.out.bel
  clear CU hb K2 F2 K3
  go_wp2
  go_ret
  exact ⟨by first | rfl | simp, B3.out⟩

end Go.Proofs.YtllidkflgjjkfaaGreatDoor
