/-
  Texts SeP, SeP2 of the proof.
-/
import Derived.Test.YtllidkflgjjkfaaGreatDoorB39

namespace Go.Proofs.YtllidkflgjjkfaaGreatDoor
open Go.ChangeShapes Go.WideShapes Go.ChangeAt Go.RowKit
set_option linter.unusedVariables false
set_option linter.unusedSimpArgs false

/-- Is a set one of at most 256 blocks? -/
def smB (v : Bool) (n : Nat) (b k : Int) : Bool := cutB v n b k && decide (k - b ≤ 8)

set_option maxHeartbeats 800000 in
theorem small7_no {v : Bool} {h l b k : Int} {n : Nat} (hp : IsNum h l n) (hc : cutB v n b k = false) (w : World) :
    Calls Tryz.prog 29 #[pv v h l b, .int .i64 k] w fun e w' => e = .returned (.bool false) ∧ Below w.heap.size w w' := by
  have K := pfx_start7 w v h l b
  have CU := hide (fun w' => rcuts_c (v := v) (b := b) (k := k) hp w')
  rw [hc] at CU
  clear hp hc
  go_enter Tryz.func29, Tryz.ntmps29
  go_wp2_with fail
  refine (CU.out _).mono ?_
  rintro e w1 ⟨rfl, hb⟩
  have B := (K.below hb).bel
  clear CU hb K
  go_wp2
  go_ret
  exact ⟨by first | rfl | simp, B⟩

set_option maxHeartbeats 800000 in
theorem small7_yes {v : Bool} {h l b k : Int} {n : Nat} (hp : IsNum h l n) (hc : cutB v n b k = true) (w : World) :
    Calls Tryz.prog 29 #[pv v h l b, .int .i64 k] w fun e w' => e = .returned (.bool (decide (k - b ≤ 8))) ∧ Below w.heap.size w w' := by
  have K := pfx_start7 w v h l b
  have CU := hide (fun w' => rcuts_c (v := v) (b := b) (k := k) hp w')
  rw [hc] at CU
  obtain ⟨_, b0, b1, b2, _⟩ := cutB_parts hc
  have hW2 := width_le v
  have wr : IntKind.i64.wrap (k - b) = k - b := by simp [IntKind.wrap, IntKind.bits, IntKind.signed]; omega
  clear hp hc b0 b1 b2 hW2
  go_enter Tryz.func29, Tryz.ntmps29
  go_wp2_with fail
  refine (CU.out _).mono ?_
  rintro e w1 ⟨rfl, hb⟩
  have K1 := K.below hb
  have F := K1.1
  simp only [Facts, CellsAt] at F
  have B := hide K1.bel
  clear CU hb K K1
  go_wp2
  go_ret
  exact ⟨by first | rfl | simp [wr], B.out⟩

theorem small7_c {v : Bool} {h l b k : Int} {n : Nat} (hp : IsNum h l n) (w : World) :
    Calls Tryz.prog 29 #[pv v h l b, .int .i64 k] w fun e w' => e = .returned (.bool (smB v n b k)) ∧ Below w.heap.size w w' := by
  unfold smB
  cases hc : cutB v n b k
  · exact small7_no hp hc w
  · exact small7_yes hp hc w

theorem smB_of {v : Bool} {h l b k : Int} {n : Nat} (hp : IsNum h l n) (hs : smB v n b k = true) : SetOf v h l b k n (2 ^ (k - b).toNat) ∧ 2 ^ (k - b).toNat ≤ 256 := by
  unfold smB at hs
  rw [Bool.and_eq_true, decide_eq_true_eq] at hs
  have le := Nat.pow_le_pow_right (n := 2) (by decide) (show (k - b).toNat ≤ 8 by omega)
  rw [show (2 : Nat) ^ 8 = 256 by decide] at le
  exact ⟨⟨hp, hs.1, rfl, by omega⟩, le⟩

theorem cell_in7 {W : World} {b o : Nat} {v : Value} (h : W.cell? ⟨b, o, none⟩ = some v) : b < W.heap.size := by
  apply Classical.byContradiction
  intro c
  simp only [World.cell?] at h
  rw [Array.getElem?_eq_none (by omega)] at h
  cases h

/-- The cells of blocks. -/
def cellsQ (v : Bool) (n : Nat) (k : Int) : List Nat → List Value
  | [] => []
  | p :: r => .bool v :: .int .u64 ((blkN v n k p / 18446744073709551616 : Nat) : Int) :: .int .u64 ((blkN v n k p % 18446744073709551616 : Nat) : Int) :: .int .i64 k :: cellsQ v n k r

theorem cellsQ_add (v : Bool) (n : Nat) (k : Int) : ∀ (l : List Nat) (p : Nat), cellsQ v n k (l ++ [p]) = cellsQ v n k l ++ [.bool v, .int .u64 ((blkN v n k p / 18446744073709551616 : Nat) : Int), .int .u64 ((blkN v n k p % 18446744073709551616 : Nat) : Int), .int .i64 k]
  | [], p => rfl
  | q :: r, p => by
    show _ :: _ :: _ :: _ :: cellsQ v n k (r ++ [p]) = _
    rw [cellsQ_add v n k r p]
    rfl

theorem cellsQ_at (v : Bool) (n : Nat) (k : Int) : ∀ (l : List Nat) (j : Nat) (h : j < l.length), (cellsQ v n k l)[j * 4]? = some (.bool v) ∧ (cellsQ v n k l)[j * 4 + 1]? = some (.int .u64 ((blkN v n k l[j] / 18446744073709551616 : Nat) : Int)) ∧ (cellsQ v n k l)[j * 4 + 2]? = some (.int .u64 ((blkN v n k l[j] % 18446744073709551616 : Nat) : Int)) ∧ (cellsQ v n k l)[j * 4 + 3]? = some (.int .i64 k)
  | [], j, h => absurd h (by simp)
  | p :: r, 0, h => ⟨rfl, rfl, rfl, rfl⟩
  | p :: r, j + 1, h => by
    obtain ⟨h0, h1, h2, h3⟩ := cellsQ_at v n k r j (by simpa using h)
    have e : (j + 1) * 4 = j * 4 + 4 := by omega
    rw [e]
    exact ⟨h0, h1, h2, h3⟩

/-- What the law's loop keeps. -/
structure ASt (w : World) (base : Nat) (v : Bool) (h l b k : Int) (x a g N : Nat) (f : Nat → Bool) (c n : Nat) (u : Value) (gs : List Nat) (W : World) : Prop where
  st : HSt w [(w.heap.size, [.bool v, .int .u64 h, .int .u64 l, .int .i64 b], 28)] v h l b k x a g N f c W
  row : W.ownsRow base 28 4 u gs.length (cellsQ v n k gs)
  gb : g < base ∧ x < base ∧ a < base ∧ w.heap.size < base
  bs : base ≤ W.heap.size

theorem ASt.below {w W W' : World} {base : Nat} {v : Bool} {h l b k : Int} {x a g N c n : Nat} {f : Nat → Bool} {u : Value} {gs : List Nat} (S : ASt w base v h l b k x a g N f c n u gs W) (q : Below W.heap.size W W') : ASt w base v h l b k x a g N f c n u gs W' :=
  ⟨S.st.below q, own_below S.row q, S.gb, Nat.le_trans S.bs q.size⟩

theorem own_but7 {W W' : World} {base size k g x : Nat} {e : TypeId} {sv : Value} {xs : List Value} (h : W.ownsRow base e size sv k xs) (hg : g < base) (hx : x < base) (kb : But [g, x] W.heap.size W W') : W'.ownsRow base e size sv k xs := by
  refine ⟨h.1, ?_⟩
  rcases h.2 with h1 | ⟨g', cap, cur, h1, h2, h3, h4⟩
  · exact Or.inl h1
  · exact Or.inr ⟨g', cap, cur, h1, h2, (kb.block g' (Array.getElem?_eq_some_iff.1 h3).1 (by simp; omega)).trans h3, h4⟩

theorem ASt.turn {w W W' : World} {base : Nat} {v : Bool} {h l b k : Int} {x a g N c c' n : Nat} {f f' : Nat → Bool} {u : Value} {gs : List Nat} (S : ASt w base v h l b k x a g N f c n u gs W) (P' : SetAt W' v h l b k x a g N f' c') (q : But [g, x] W.heap.size W W') : ASt w base v h l b k x a g N f' c' n u gs W' :=
  ⟨S.st.turn P' q, own_but7 S.row S.gb.1 S.gb.2.1 q, S.gb, Nat.le_trans S.bs q.size⟩

/-- Behind an append to the row. -/
theorem ASt.grown {w W W' : World} {base : Nat} {v : Bool} {h l b k : Int} {x a g N c n p : Nat} {f : Nat → Bool} {u u' : Value} {gs : List Nat} {o : Obj} (S : ASt w base v h l b k x a g N f c n u gs W) (hown : W'.ownsRow base 28 4 u' (gs.length + 1) (cellsQ v n k gs ++ [.bool v, .int .u64 ((blkN v n k p / 18446744073709551616 : Nat) : Int), .int .u64 ((blkN v n k p % 18446744073709551616 : Nat) : Int), .int .i64 k])) (hg : (W.alloc o).grownBy W' u.ownBlock) : ASt w base v h l b k x a g N f c n u' (gs ++ [p]) W' := by
  have B : Below base W W' := below_grown (Below.refl _ _) S.bs S.row hg
  have kk : But [] base W W' := But.of B (Nat.le_refl _)
  have z := S.st
  refine ⟨⟨Kn.of ⟨kk.blk z.kn.2.1.1 S.gb.2.2.2 (by simp), trivial⟩ (z.kn.bel.trans (B.mono (Nat.le_of_lt S.gb.2.2.2))), z.p.keep B S.gb.2.1 S.gb.2.2.1 S.gb.1, z.og, z.ox, z.hg, z.hx⟩, ?_, S.gb, Nat.le_trans S.bs B.size⟩
  rw [List.length_append, cellsQ_add]
  exact hown

/-- What is given is used. -/
structure GOk7 (f0 f : Nat → Bool) (N : Nat) (gs : List Nat) : Prop where
  used : ∀ p, p ∈ gs → f p = true ∧ p < N
  num : cnt f N = cnt f0 N + gs.length
  more : ∀ p, f0 p = true → f p = true

theorem GOk7.start (f0 : Nat → Bool) (N : Nat) : GOk7 f0 f0 N [] := ⟨fun p h => (by cases h), (by simp), fun p h => h⟩

theorem GOk7.give {f0 f : Nat → Bool} {N p : Nat} {gs : List Nat} (G : GOk7 f0 f N gs) (hp : p < N) (hf : f p = false) : GOk7 f0 (upd f p true) N (gs ++ [p]) := by
  refine ⟨fun q hq => ?_, ?_, fun q hq => ?_⟩
  · unfold upd
    split
    · rename_i c
      exact ⟨rfl, c ▸ hp⟩
    · rcases List.mem_append.1 hq with h | h
      · exact G.used q h
      · rename_i c
        simp at h
        exact absurd h c
  · rw [cnt_put7 hp hf, G.num, List.length_append]
    simp
    omega
  · unfold upd
    split
    · rfl
    · exact G.more q hq

theorem next_some7 {f : Nat → Bool} {N s : Nat} (hs : s < N) (h : cnt f N < N) : ∃ p, nextF f N s = some p ∧ p < N ∧ f p = false := by
  cases e : nextF f N s with
  | none =>
    have := (cnt_full (p := f) (n := N)).2 (nextF_none hs e)
    omega
  | some p => exact ⟨p, rfl, nextF_is hs e⟩

theorem next_none7 {f : Nat → Bool} {N s : Nat} (hs : s < N) (h : cnt f N = N) : nextF f N s = none := by
  cases e : nextF f N s with
  | none => rfl
  | some p =>
    obtain ⟨h1, h2⟩ := nextF_is hs e
    have := (cnt_full (p := f) (n := N)).1 h p h1
    rw [h2] at this
    cases this

/-- All blocks that overlap one of the first j prefixes are used. -/
def Cov (w : World) (bo oo : Nat) (v : Bool) (n : Nat) (k : Int) (N : Nat) (f : Nat → Bool) (j : Nat) : Prop :=
  ∀ q, q < j → ∀ (u : Bool) (qh ql : Int) (m : Nat) (c : Int), IsNum qh ql m → w.cell? ⟨bo, oo + q * 4, none⟩ = some (.bool u) → w.cell? ⟨bo, oo + q * 4 + 1, none⟩ = some (.int .u64 qh) → w.cell? ⟨bo, oo + q * 4 + 2, none⟩ = some (.int .u64 ql) → w.cell? ⟨bo, oo + q * 4 + 3, none⟩ = some (.int .i64 c) → ∀ p, ovP v n k N u m c p = true → f p = true

theorem Cov.start (w : World) (bo oo : Nat) (v : Bool) (n : Nat) (k : Int) (N : Nat) (f : Nat → Bool) : Cov w bo oo v n k N f 0 := fun q hq => absurd hq (by omega)

theorem Cov.step {w : World} {bo oo : Nat} {v : Bool} {n : Nat} {k : Int} {N : Nat} {f : Nat → Bool} {j : Nat} (H : Cov w bo oo v n k N f j) {u : Bool} {qh ql : Int} {m : Nat} {c : Int} (hq : IsNum qh ql m) (h0 : w.cell? ⟨bo, oo + j * 4, none⟩ = some (.bool u)) (h1 : w.cell? ⟨bo, oo + j * 4 + 1, none⟩ = some (.int .u64 qh)) (h2 : w.cell? ⟨bo, oo + j * 4 + 2, none⟩ = some (.int .u64 ql)) (h3 : w.cell? ⟨bo, oo + j * 4 + 3, none⟩ = some (.int .i64 c)) : Cov w bo oo v n k N (setO v n k N u m c true f) (j + 1) := by
  intro q hqj u' qh' ql' m' c' hq' g0 g1 g2 g3 p hp
  unfold setO
  split
  · rfl
  · rename_i hn
    by_cases e : q = j
    · subst e
      rw [h0] at g0
      rw [h1] at g1
      rw [h2] at g2
      rw [h3] at g3
      injection g0 with g0
      injection g0 with g0
      injection g1 with g1
      injection g1 with _ g1
      injection g2 with g2
      injection g2 with _ g2
      injection g3 with g3
      injection g3 with _ g3
      subst g0 g1 g2 g3
      have : m = m' := (hq.inj hq').2 ⟨rfl, rfl⟩
      subst this
      exact absurd hp hn
    · exact H q (by omega) u' qh' ql' m' c' hq' g0 g1 g2 g3 p hp

/-- What an inner loop reads: a prefix of its own, and one of a row. -/
def AX (w : World) (base : Nat) (v : Bool) (h l b k : Int) (x a g N : Nat) (f : Nat → Bool) (c n : Nat) (u : Value) (gs : List Nat) (X : Nat) (rh rl : Int) (B o : Nat) (y0 y1 y2 y3 : Value) (W : World) : Prop :=
  (W.cell? ⟨X, 0, none⟩ = some (.bool v) ∧ W.cell? ⟨X, 1, none⟩ = some (.int .u64 rh) ∧ W.cell? ⟨X, 2, none⟩ = some (.int .u64 rl) ∧ W.cell? ⟨X, 3, none⟩ = some (.int .i64 k) ∧ W.cell? ⟨B, o, none⟩ = some y0 ∧ W.cell? ⟨B, o + 1, none⟩ = some y1 ∧ W.cell? ⟨B, o + 2, none⟩ = some y2 ∧ W.cell? ⟨B, o + 3, none⟩ = some y3) ∧
  Hid (ASt w base v h l b k x a g N f c n u gs W ∧ Kn w [(X, [.bool v, .int .u64 rh, .int .u64 rl, .int .i64 k], 28), (w.heap.size, [.bool v, .int .u64 h, .int .u64 l, .int .i64 b], 28)] W)

theorem AX.below {w : World} {base : Nat} {v : Bool} {h l b k : Int} {x a g N : Nat} {f : Nat → Bool} {c n : Nat} {u : Value} {gs : List Nat} {X : Nat} {rh rl : Int} {B o : Nat} {y0 y1 y2 y3 : Value} {W W' : World} (s : AX w base v h l b k x a g N f c n u gs X rh rl B o y0 y1 y2 y3 W) (q : Below W.heap.size W W') : AX w base v h l b k x a g N f c n u gs X rh rl B o y0 y1 y2 y3 W' := by
  obtain ⟨⟨a0, a1, a2, a3, b0, b1, b2, b3⟩, z⟩ := s
  have e : ∀ {B o v}, W.cell? ⟨B, o, none⟩ = some v → W'.cell? ⟨B, o, none⟩ = some v := fun {B o v} hh => ((bcell q).1 B o (cell_in7 hh)).trans hh
  exact ⟨⟨e a0, e a1, e a2, e a3, e b0, e b1, e b2, e b3⟩, ⟨z.out.1.below q, z.out.2.below q⟩⟩

theorem AX.drew {w : World} {base : Nat} {v : Bool} {h l b k : Int} {x a g N : Nat} {f : Nat → Bool} {c n : Nat} {u : Value} {gs : List Nat} {X : Nat} {rh rl : Int} {B o : Nat} {y0 y1 y2 y3 : Value} {W : World} (s : AX w base v h l b k x a g N f c n u gs X rh rl B o y0 y1 y2 y3 W) : AX w base v h l b k x a g N f c n u gs X rh rl B o y0 y1 y2 y3 W.drew := s.below (by repeat (first | with_reducible exact Below.refl _ _ | with_reducible refine Below.drew ?_ | with_reducible refine Below.alloc ?_ (by first | omega | (simp <;> omega)) _ | with_reducible refine Below.setCell ?_ (by first | omega | (simp <;> omega)) _))

/-- A cell of the row. -/
theorem row_at7 {W : World} {base q n : Nat} {k : Int} {v : Bool} {u : Value} {gs : List Nat} (h : W.ownsRow base 28 4 u q (cellsQ v n k gs)) (hk : q = gs.length) {j : Nat} (hj : j < gs.length) : ∃ B cap, u = .slice (some ⟨B, 0, none⟩) q cap ∧ W.cell? ⟨B, j * 4, none⟩ = some (.bool v) ∧ W.cell? ⟨B, j * 4 + 1, none⟩ = some (.int .u64 ((blkN v n k gs[j] / 18446744073709551616 : Nat) : Int)) ∧ W.cell? ⟨B, j * 4 + 2, none⟩ = some (.int .u64 ((blkN v n k gs[j] % 18446744073709551616 : Nat) : Int)) ∧ W.cell? ⟨B, j * 4 + 3, none⟩ = some (.int .i64 k) := by
  obtain ⟨h0, h1, h2, h3⟩ := cellsQ_at v n k gs j hj
  have ad : ∀ B i : Nat, (⟨B, 0, none⟩ : Addr).add i = ⟨B, i, none⟩ := fun B i => by
    unfold Addr.add
    split <;> simp_all
  rcases h.2 with ⟨_, q⟩ | ⟨B, cap, cur, q, _⟩
  · omega
  · refine ⟨B, cap, q, ?_, ?_, ?_, ?_⟩
    · have := h.cells (g := B) (by rw [q]; rfl) _ _ h0
      rwa [ad] at this
    · have := h.cells (g := B) (by rw [q]; rfl) _ _ h1
      rwa [ad] at this
    · have := h.cells (g := B) (by rw [q]; rfl) _ _ h2
      rwa [ad] at this
    · have := h.cells (g := B) (by rw [q]; rfl) _ _ h3
      rwa [ad] at this
end Go.Proofs.YtllidkflgjjkfaaGreatDoor

namespace Go.Proofs.YtllidkflgjjkfaaGreatDoor
open Go.ChangeShapes Go.WideShapes Go.ChangeAt Go.RowKit
set_option linter.unusedVariables false
set_option linter.unusedSimpArgs false

set_option maxRecDepth 100000 in
set_option maxHeartbeats 1600000 in
theorem bapart_out {v : Bool} {h l b k : Int} {n len cap : Nat} {xo : Option Addr} (hp : IsNum h l n) (hlen : len ≤ 9223372036854775807) (hc : smB v n b k = false ∨ (smB v n b k = true ∧ 20 < len)) (w : World) (hL : LW w) (hT : TB w) :
    Calls Tryz.prog 6 #[pv v h l b, .int .i64 k, .slice xo len cap] w fun e w' => e = .returned (.bool true) ∧ Below w.heap.size w w' := by
  have hz := hL.sz
  have K := pfx_start7 w v h l b
  have AW := hide (awake7_c _ (hL.of K.bel hz) (hT.below K.bel))
  have SM := hide (fun w' => small7_c (v := v) (b := b) (k := k) hp w')
  have KH := hide K
  clear hL hT hz hp K
  rcases hc with c | ⟨c, c3⟩
  · rw [c] at SM
    clear c
    go_enter Tryz.func6, Tryz.ntmps6
    go_wp2_with fail
    refine AW.out.mono ?_
    rintro e w0 ⟨rfl, hb⟩
    have K0 := hide (KH.out.below hb)
    have F := K0.out.1
    simp only [Facts, CellsAt] at F
    clear AW hb KH
    go_wp2_with fail
    refine (SM.out _).mono ?_
    rintro e w1 ⟨rfl, hb⟩
    have B := (K0.out.below hb).bel
    clear SM hb K0 F
    go_wp2
    go_ret
    exact ⟨by first | rfl | simp, B⟩
  · rw [c] at SM
    have d3 : (len : Int) > 20 := by omega
    clear c c3
    go_enter Tryz.func6, Tryz.ntmps6
    go_wp2_with fail
    refine AW.out.mono ?_
    rintro e w0 ⟨rfl, hb⟩
    have K0 := hide (KH.out.below hb)
    have F := K0.out.1
    simp only [Facts, CellsAt] at F
    clear AW hb KH
    go_wp2_with fail
    refine (SM.out _).mono ?_
    rintro e w1 ⟨rfl, hb⟩
    have B := (K0.out.below hb).bel
    clear SM hb K0 F
    go_wp2
    go_ret
    exact ⟨by first | rfl | simp, B⟩

set_option maxRecDepth 100000 in
set_option maxHeartbeats 6400000 in
theorem bapart_main {v : Bool} {h l b k : Int} {n N len cap bo oo : Nat} {xo : Option Addr} (O : SetOf v h l b k n N) (hN : N ≤ 256) (hs : smB v n b k = true) (hlen : len ≤ 20) (w : World) (hA : PfxsAt w xo len bo oo) (hL : LW w) (hT : TB w) :
    Calls Tryz.prog 6 #[pv v h l b, .int .i64 k, .slice xo len cap] w fun e w' => e = .returned (.bool true) ∧ Below w.heap.size w w' := by
  have hz := hL.sz
  have K := pfx_start7 w v h l b
  have AW := hide (awake7_c _ (hL.of K.bel hz) (hT.below K.bel))
  have SM := hide (fun w' => small7_c (v := v) (b := b) (k := k) O.num w')
  rw [hs] at SM
  have NW := hide (fun w' => snew_c O w')
  have OC := hide (fun (u : Bool) (qh ql c : Int) (m : Nat) (hq : IsNum qh ql m) x a g L f W (S : HSt w L v h l b k x a g N f 0 W) => occ_h (u := u) (c := c) (f := f) O hq rfl rfl rfl S)
  have TH := hide (fun W (hb : Below w.heap.size w W) => hT.below hb)
  have AH := hide hA
  obtain ⟨i0, hinf, hz0, hz1, hz2⟩ := info_parts infoPfx7
  have blk (p : Nat) (hpN : p < N) : IsNum ((blkN v n k p / 18446744073709551616 : Nat) : Int) ((blkN v n k p % 18446744073709551616 : Nat) : Int) (blkN v n k p) := num_parts7 (blk_ok O.cut O.num.lt (by rw [O.len]; exact hpN)).2
  have NX := hide (fun (f : Nat → Bool) (cu p : Nat) (hnx : nextF f N cu = some p) (hpN : p < N) x a g w' (hT' : TB w') (P' : SetAt w' v h l b k x a g N f cu) => snext_ok O hnx (blk p hpN) w' hT' P')
  have NF := hide (fun (f : Nat → Bool) (cu : Nat) (hnx : nextF f N cu = none) x a g w' (hT' : TB w') (P' : SetAt w' v h l b k x a g N f cu) => snext_full O hnx w' hT' P')
  have WI := hide (fun (p : Nat) (hpN : p < N) w' => (blk_within O.cut O.num.lt (show p < 2 ^ (k - b).toNat by rw [O.len]; exact hpN) ▸ within_c (v := v) (u := v) (b := k) (c := b) (blk p hpN) O.num w' : Calls Tryz.prog 48 #[pv v ((blkN v n k p / 18446744073709551616 : Nat) : Int) ((blkN v n k p % 18446744073709551616 : Nat) : Int) k, pv v h l b] w' fun e w1 => e = .returned (.bool true) ∧ Below w'.heap.size w' w1))
  have OV := hide (fun (p : Nat) (hpN : p < N) (u : Bool) (qh ql c : Int) (m : Nat) (hq : IsNum qh ql m) w' => over_c (v := v) (u := u) (b := k) (c := c) (blk p hpN) hq w')
  have OQ := hide (fun (p q : Nat) (hpN : p < N) (hqN : q < N) (hne : p ≠ q) w' => ((blk_over O.cut O.num.lt (show p < 2 ^ (k - b).toNat by rw [O.len]; exact hpN) (show q < 2 ^ (k - b).toNat by rw [O.len]; exact hqN)).trans (decide_eq_false hne)) ▸ over_c (v := v) (u := v) (b := k) (c := k) (blk p hpN) (blk q hqN) w')
  have LF := hide (fun (f : Nat → Bool) (cu : Nat) (C : Int) (hC : ((N : Nat) : Int) - (cnt f N : Nat) = C) x a g w' (P' : SetAt w' v h l b k x a g N f cu) => sleft_c hC w' P')
  have SZ := hide (fun (f : Nat → Bool) (cu : Nat) x a g w' (P' : SetAt w' v h l b k x a g N f cu) => ssize_c w' P')
  have US := hide (fun (f : Nat → Bool) (cu : Nat) x a g w' (P' : SetAt w' v h l b k x a g N f cu) => sused_c O w' P')
  have OP := O.pos
  have KH := hide K
  clear hL hz O K hT hA hs blk
  have d3 : ¬ (len : Int) > 20 := by omega
  go_enter Tryz.func6, Tryz.ntmps6
  go_wp2_with fail
  refine AW.out.mono ?_
  rintro e w0 ⟨rfl, hb⟩
  have K0 := hide (KH.out.below hb)
  have F := K0.out.1
  simp only [Facts, CellsAt] at F
  clear AW hb KH
  go_wp2_with fail
  refine (SM.out _).mono ?_
  rintro e w1 ⟨rfl, hb⟩
  have K1 := hide (K0.out.below hb)
  have F1 := K1.out.1
  simp only [Facts, CellsAt] at F1
  clear SM hb K0 F
  go_wp2_with fail
  refine (NW.out _).mono ?_
  rintro e w2 ⟨x, a, g, rfl, hP, hb, hx, hg, ha⟩
  have S2 : Hid (HSt w [(w.heap.size, [.bool v, .int .u64 h, .int .u64 l, .int .i64 b], 28)] v h l b k x a g N (fun _ => false) 0 w2) := by
    have l1 := K1.out.lts
    have l2 := K1.out.bel.size
    simp only [Lts] at l1
    exact ⟨K1.out.below hb, hP, ⟨by show w.heap.size ≠ g; omega, trivial⟩, ⟨by show w.heap.size ≠ x; omega, trivial⟩, by omega, by omega⟩
  have C2 := hide (Cov.start w bo oo v n k N (fun _ => false))
  clear NW hb K1 F1 hP hx hg ha
  go_wp2_with fail
  go_loopw [9] (fun jv wr => ∃ (j : Nat) (f : Nat → Bool), j ≤ len ∧ jv = .int .i64 j ∧ Hid (HSt w [(w.heap.size, [.bool v, .int .u64 h, .int .u64 l, .int .i64 b], 28)] v h l b k x a g N f 0 wr) ∧ Hid (Cov w bo oo v n k N f j)) (fun jv _ => len - (intOf jv).toNat)
  case atStart => exact ⟨0, _, by omega, rfl, S2, C2⟩
  case round =>
    clear S2 C2
    obtain ⟨j, f, hj, rfl, S, C⟩ := hrel
    by_cases hlt : j < len
    · have hlt' : (j : Int) < len := by omega
      obtain ⟨ho, _, hc⟩ := AH.out
      obtain ⟨u, qh, ql, m, c, hq, c0, c1, c2, c3⟩ := hc j hlt
      obtain rfl : xo = some ⟨bo, oo, none⟩ := ho.resolve_right (by omega)
      have O1 := hide (OC.out u qh ql c m hq x a g _ f wr S.out)
      have C1 := hide (C.out.step hq c0 c1 c2 c3)
      have bl := S.out.kn.bel
      have d0 := ((bcell bl).1 _ _ (cell_in7 c0)).trans c0
      have d1 := ((bcell bl).1 _ _ (cell_in7 c1)).trans c1
      have d2 := ((bcell bl).1 _ _ (cell_in7 c2)).trans c2
      have d4 := ((bcell bl).1 _ _ (cell_in7 c3)).trans c3
      clear hc hq c0 c1 c2 c3 C ho bl NX NF WI OV OQ LF US
      go_wp2_with fail
      refine O1.out.mono ?_
      rintro e w3 ⟨rfl, hS⟩
      have S3 := hide hS
      clear O1 hS S d0 d1 d2 d4
      go_wp2
      go_roundw
      case rel => exact ⟨j + 1, _, by omega, by go_num, S3, C1⟩
      case measure => simp [intOf]; omega
    · obtain rfl : j = len := by omega
      have hlt' : ¬ (j : Int) < j := by omega
      obtain ⟨f0, hf0⟩ : ∃ f0, f = f0 := ⟨_, rfl⟩
      subst hf0
      have c0 : cnt f N ≤ N := cnt_le _ _
      obtain ⟨M, hM⟩ : ∃ M, N = cnt f N + M := ⟨N - cnt f N, by omega⟩
      have HM := hide hM
      have M6 : M ≤ 256 := by omega
      have LE := hide (fun w' P' => LF.out f 0 (M : Int) (by have := HM.out; omega) x a g w' P')
      have bl : Below wr.heap.size wr (wr.alloc (.cells #[] 28)) := by repeat (first | with_reducible exact Below.refl _ _ | with_reducible refine Below.drew ?_ | with_reducible refine Below.alloc ?_ (by first | omega | (simp <;> omega)) _ | with_reducible refine Below.setCell ?_ (by first | omega | (simp <;> omega)) _)
      have S3 := hide (S.out.below bl)
      have row0 : Hid ((wr.alloc (.cells #[] 28)).ownsRow wr.heap.size 28 4 (.slice (some ⟨wr.heap.size, 0, none⟩) 0 0) 0 (cellsQ v n k [])) := World.ownsRow_made _ _ _ (Nat.le_refl _) (Nat.zero_le _) rfl
      have q1 := S.out.p.lt
      have q3 := S.out.kn.lts.1
      have LE2 := hide (LE.out _ S3.out.p)
      clear OC hM c0 LE S
      go_wp2_with fail
      refine LE2.out.mono ?_
      rintro e w3 ⟨rfl, hb⟩
      have S0 : Hid (ASt w wr.heap.size v h l b k x a g N f 0 n (.slice (some ⟨wr.heap.size, 0, none⟩) 0 0) [] w3) := ⟨S3.out.below hb, own_below row0.out hb, ⟨q1.2.2, q1.1, q1.2.1, q3⟩, Nat.le_trans bl.size hb.size⟩
      have G0 := hide (GOk7.start f N)
      have base0 : Hid (∃ base, base = wr.heap.size) := ⟨_, rfl⟩
      obtain ⟨base, hbase⟩ := base0.out
      rw [← hbase] at S0 ⊢
      clear LE2 hb S3 bl row0 q1 q3 hbase base0
      go_wp2_with fail
      go_loopw [10, 12] (fun uv iv wq => ∃ (i : Nat) (f1 : Nat → Bool) (cu : Nat) (gs : List Nat), i ≤ M ∧ iv = .int .i64 i ∧ gs.length = i ∧ Hid (GOk7 f f1 N gs) ∧ Hid (ASt w base v h l b k x a g N f1 cu n uv gs wq)) (fun _ iv _ => M - (intOf iv).toNat)
      case atStart => exact ⟨0, f, 0, [], by omega, rfl, rfl, G0, S0⟩
      case round =>
        clear S0 G0
        obtain ⟨i, f1, cu, gs, hi, rfl, hgl, G, S⟩ := hrel
        by_cases hiM : i < M
        · have hiM' : (i : Int) < M := by omega
          have hcnt : cnt f1 N < N := by
            have a1 := G.out.num
            have a2 := HM.out
            omega
          obtain ⟨p, hnx, hpN, hfp⟩ := next_some7 (s := cu) S.out.st.p.cur hcnt
          obtain ⟨rh, hrh⟩ : ∃ rh : Int, ((blkN v n k p / 18446744073709551616 : Nat) : Int) = rh := ⟨_, rfl⟩
          obtain ⟨rl, hrl⟩ : ∃ rl : Int, ((blkN v n k p % 18446744073709551616 : Nat) : Int) = rl := ⟨_, rfl⟩
          have N1 := NX.out f1 cu p hnx hpN x a g wr (TH.out _ S.out.st.kn.bel) S.out.st.p
          have W1 := WI.out p hpN
          have V1 : ∀ q, q < j → ∀ (u : Bool) (qh ql c : Int) (m : Nat), IsNum qh ql m → w.cell? ⟨bo, oo + q * 4, none⟩ = some (.bool u) → w.cell? ⟨bo, oo + q * 4 + 1, none⟩ = some (.int .u64 qh) → w.cell? ⟨bo, oo + q * 4 + 2, none⟩ = some (.int .u64 ql) → w.cell? ⟨bo, oo + q * 4 + 3, none⟩ = some (.int .i64 c) → ∀ w', Calls Tryz.prog 47 #[pv v rh rl k, pv u qh ql c] w' fun e w1 => e = .returned (.bool false) ∧ Below w'.heap.size w' w1 := fun q hq u qh ql c m hm e0 e1 e2 e3 w' => by
            have t := OV.out p hpN u qh ql c m hm w'
            have z : overB v (blkN v n k p) k u m c = false := by
              cases z : overB v (blkN v n k p) k u m c
              · rfl
              · have y := C.out q hq u qh ql m c hm e0 e1 e2 e3 p (by unfold ovP; rw [decide_eq_true hpN, z]; rfl)
                rw [G.out.more p y] at hfp
                cases hfp
            rw [z, hrh, hrl] at t
            exact t
          have U1 : ∀ q, q ∈ gs → ∀ w', Calls Tryz.prog 47 #[pv v rh rl k, pv v ((blkN v n k q / 18446744073709551616 : Nat) : Int) ((blkN v n k q % 18446744073709551616 : Nat) : Int) k] w' fun e w1 => e = .returned (.bool false) ∧ Below w'.heap.size w' w1 := fun q hq w' => by
            obtain ⟨hu, hqN⟩ := G.out.used q hq
            have t := OQ.out p q hpN hqN (fun e => by rw [← e, hfp] at hu; cases hu) w'
            rw [hrh, hrl] at t
            exact t
          rw [hrh, hrl] at N1 W1
          have HGL := hide hgl
          have N1H := hide N1
          have W1H := hide W1
          have V1H := hide V1
          have U1H := hide U1
          have HA := hide hrh
          have HB := hide hrl
          have G1 := hide (G.out.give hpN hfp)
          obtain ⟨cu2, hcu2⟩ : ∃ cu2, (p + 1) % N = cu2 := ⟨_, rfl⟩
          rw [hcu2] at N1H
          clear N1 W1 V1 U1 hrh hrl hnx hpN hfp hcnt NX NF WI OV OQ LF SZ US hcu2 G C hgl
          go_wp2_with fail
          refine N1H.out.mono ?_
          rintro e w4 ⟨rfl, hP, hK⟩
          have S4 := S.out.turn hP hK
          have bl : Below w4.heap.size w4 (w4.alloc (.cells #[.bool v, .int .u64 rh, .int .u64 rl, .int .i64 k] 28)) := by repeat (first | with_reducible exact Below.refl _ _ | with_reducible refine Below.drew ?_ | with_reducible refine Below.alloc ?_ (by first | omega | (simp <;> omega)) _ | with_reducible refine Below.setCell ?_ (by first | omega | (simp <;> omega)) _)
          have K4 := hide (S4.st.kn.push (b := w4.heap.size) (cs := [.bool v, .int .u64 rh, .int .u64 rl, .int .i64 k]) (t := 28) rfl)
          have S5 := hide (S4.below bl)
          have F4 := K4.out.1
          simp only [Facts, CellsAt] at F4
          clear N1H hP hK S4 bl S
          go_wp2_with fail
          refine (W1H.out _).mono ?_
          rintro e w5 ⟨rfl, hb⟩
          have K6 := hide (K4.out.below hb)
          have S6 := hide (S5.out.below hb)
          have F6 := K6.out.1
          simp only [Facts, CellsAt] at F6
          clear W1H hb K4 S5 F4
          go_wp2_with fail
          go_loopw [15] (fun tv wr2 => ∃ t : Nat, t ≤ j ∧ tv = .int .i64 t ∧ Hid (ASt w base v h l b k x a g N (upd f1 p true) cu2 n u10 gs wr2) ∧ Hid (Kn w [(w4.heap.size, [.bool v, .int .u64 rh, .int .u64 rl, .int .i64 k], 28), (w.heap.size, [.bool v, .int .u64 h, .int .u64 l, .int .i64 b], 28)] wr2)) (fun tv _ => j - (intOf tv).toNat)
          case atStart => exact ⟨0, by omega, rfl, S6, K6⟩
          case round =>
            clear S6 K6 F6
            obtain ⟨t, ht, rfl, S7, K7⟩ := hrel
            by_cases htl : t < j
            · have htl' : (t : Int) < j := by omega
              obtain ⟨ho, _, hc⟩ := AH.out
              obtain ⟨u, qh, ql, m, c, hq, c0, c1, c2, c3⟩ := hc t htl
              obtain rfl : xo = some ⟨bo, oo, none⟩ := ho.resolve_right (by omega)
              have VV := hide (V1H.out t htl u qh ql c m hq c0 c1 c2 c3)
              have bl := K7.out.bel
              have d0 := ((bcell bl).1 _ _ (cell_in7 c0)).trans c0
              have d1 := ((bcell bl).1 _ _ (cell_in7 c1)).trans c1
              have d2 := ((bcell bl).1 _ _ (cell_in7 c2)).trans c2
              have d4 := ((bcell bl).1 _ _ (cell_in7 c3)).trans c3
              have O0 : (AX w base v h l b k x a g N (upd f1 p true) cu2 n u10 gs w4.heap.size rh rl bo (oo + t * 4) (.bool u) (.int .u64 qh) (.int .u64 ql) (.int .i64 c)) wr := ⟨⟨K7.out.2.1.1.cell 0, K7.out.2.1.1.cell 1, K7.out.2.1.1.cell 2, K7.out.2.1.1.cell 3, d0, d1, d2, d4⟩, ⟨S7.out, K7.out⟩⟩
              clear hc hq c0 c1 c2 c3 ho bl d0 d1 d2 d4 S7 K7 U1H G1 HA HB
              go_wp2_with fail
              refine wp_region_held_drew (S := (AX w base v h l b k x a g N (upd f1 p true) cu2 n u10 gs w4.heap.size rh rl bo (oo + t * 4) (.bool u) (.int .u64 qh) (.int .u64 ql) (.int .i64 c))) (by kernel_rfl) ?hS100 (fun hHeld => ?rest100)
              case hS100 => (first | with_reducible exact O0.drew | with_reducible exact hHeld.below hb4)
              refine wpAnyH_take (i := 0) (oi := _) (v := ?v101) (List.getElem?_toArray.trans rfl) (by kernel_rfl) (by kernel_rfl) (by kernel_rfl) (fun _ _ _ h => h) (Or.inl ⟨by rfl, ?hy101⟩) (by assumption) ?rest101
              case hy101 => (intro wq hSw; (try simp only [Two, AX] at hSw); go_simp; try with_reducible rfl)
              try simp only [Act.put, List.setIfInBounds_toArray, List.set_cons_zero, List.set_cons_succ]
              refine wpAnyH_take (i := 1) (oi := _) (v := ?v102) (List.getElem?_toArray.trans rfl) (by kernel_rfl) (by kernel_rfl) (by kernel_rfl) (fun _ _ _ h => h) (Or.inl ⟨by rfl, ?hy102⟩) (by assumption) ?rest102
              case hy102 => (intro wq hSw; (try simp only [Two, AX] at hSw); go_simp; try with_reducible rfl)
              try simp only [Act.put, List.setIfInBounds_toArray, List.set_cons_zero, List.set_cons_succ]
              refine wpAnyH_take (i := 2) (oi := _) (v := ?v103) (List.getElem?_toArray.trans rfl) (by kernel_rfl) (by kernel_rfl) (by kernel_rfl) (fun _ _ _ h => h) (Or.inl ⟨by rfl, ?hy103⟩) (by assumption) ?rest103
              case hy103 => (intro wq hSw; (try simp only [Two, AX] at hSw); go_simp; try with_reducible rfl)
              try simp only [Act.put, List.setIfInBounds_toArray, List.set_cons_zero, List.set_cons_succ]
              refine wpAnyH_take (i := 3) (oi := _) (v := ?v104) (List.getElem?_toArray.trans rfl) (by kernel_rfl) (by kernel_rfl) (by kernel_rfl) (fun _ _ _ h => h) (Or.inl ⟨by rfl, ?hy104⟩) (by assumption) ?rest104
              case hy104 => (intro wq hSw; (try simp only [Two, AX] at hSw); go_simp; try with_reducible rfl)
              try simp only [Act.put, List.setIfInBounds_toArray, List.set_cons_zero, List.set_cons_succ]
              refine wpAnyH_take (i := 4) (oi := _) (v := ?v105) (List.getElem?_toArray.trans rfl) (by kernel_rfl) (by kernel_rfl) (by kernel_rfl) (fun _ _ _ h => h) (Or.inl ⟨by rfl, ?hy105⟩) (by assumption) ?rest105
              case hy105 => (intro wq hSw; (try simp only [Two, AX] at hSw); go_simp; try with_reducible rfl)
              try simp only [Act.put, List.setIfInBounds_toArray, List.set_cons_zero, List.set_cons_succ]
              refine wpAnyH_ready (rs := [5]) (by kernel_rfl) (by simp) ?rdy106
              refine AllReadyH.cons (List.getElem?_toArray.trans rfl) (fun K hK => ?stp106) AllReadyH.nil
              go_simp
              go_wp2_with fail
              (refine (VV.out _).mono ?_; rintro e w7 ⟨rfl, hb4⟩)
              go_wp2_with fail
              refine hK.out _ _ ?hSn106 (fun hHeld2 => ?rest106)
              case hSn106 => (first | with_reducible exact O0.drew | with_reducible exact hHeld.below hb4)
              clear hK K hHeld
              have hHeld := hHeld2
              clear hHeld2
              try simp only [Act.put, List.setIfInBounds_toArray, List.set_cons_zero, List.set_cons_succ]
              refine wpAnyH_done (by kernel_rfl) ?fin100 _
              have S8 := hide hHeld.2.out.1
              have K8 := hide hHeld.2.out.2
              clear hHeld O0 VV hb4
              go_wp2
              go_roundw
              case rel => exact ⟨t + 1, by omega, by go_num, S8, K8⟩
              case measure => simp [intOf]; omega
            · have htl' : ¬ (t : Int) < j := by omega
              have gl6 : gs.length ≤ 256 := by have := HGL.out; omega
              clear V1H
              go_wp2_with fail
              go_loopw [16] (fun tv wr2 => ∃ z : Nat, z ≤ gs.length ∧ tv = .int .i64 z ∧ Hid (ASt w base v h l b k x a g N (upd f1 p true) cu2 n u10 gs wr2) ∧ Hid (Kn w [(w4.heap.size, [.bool v, .int .u64 rh, .int .u64 rl, .int .i64 k], 28), (w.heap.size, [.bool v, .int .u64 h, .int .u64 l, .int .i64 b], 28)] wr2)) (fun tv _ => gs.length - (intOf tv).toNat)
              case atStart => exact ⟨0, by omega, rfl, S7, K7⟩
              case round =>
                clear S7 K7
                obtain ⟨z, hz, rfl, S8, K8⟩ := hrel
                by_cases hzl : z < gs.length
                · obtain ⟨B0, cap0, rfl, c0, c1, c2, c3⟩ := row_at7 S8.out.row rfl hzl
                  have UU := hide (U1H.out gs[z] (List.getElem_mem hzl))
                  obtain ⟨ch, hch⟩ : ∃ ch : Int, ((blkN v n k gs[z] / 18446744073709551616 : Nat) : Int) = ch := ⟨_, rfl⟩
                  obtain ⟨cl, hcl⟩ : ∃ cl : Int, ((blkN v n k gs[z] % 18446744073709551616 : Nat) : Int) = cl := ⟨_, rfl⟩
                  rw [hch, hcl] at UU
                  rw [hch] at c1
                  rw [hcl] at c2
                  have O0 : (AX w base v h l b k x a g N (upd f1 p true) cu2 n (.slice (some ⟨B0, 0, none⟩) gs.length cap0) gs w4.heap.size rh rl B0 (z * 4) (.bool v) (.int .u64 ch) (.int .u64 cl) (.int .i64 k)) wr := ⟨⟨K8.out.2.1.1.cell 0, K8.out.2.1.1.cell 1, K8.out.2.1.1.cell 2, K8.out.2.1.1.cell 3, c0, c1, c2, c3⟩, ⟨S8.out, K8.out⟩⟩
                  have hzl' : (z : Int) < (gs.length : Nat) := by omega
                  have HZ1 : Hid (z + 1 ≤ gs.length) := hzl
                  clear hch hcl c0 c1 c2 c3 S8 K8 G1 HA HB
                  go_wp2_with fail
                  refine wp_region_held_drew (S := (AX w base v h l b k x a g N (upd f1 p true) cu2 n (.slice (some ⟨B0, 0, none⟩) gs.length cap0) gs w4.heap.size rh rl B0 (z * 4) (.bool v) (.int .u64 ch) (.int .u64 cl) (.int .i64 k))) (by kernel_rfl) ?hS200 (fun hHeld => ?rest200)
                  case hS200 => (first | with_reducible exact O0.drew | with_reducible exact hHeld.below hb4)
                  refine wpAnyH_take (i := 0) (oi := _) (v := ?v201) (List.getElem?_toArray.trans rfl) (by kernel_rfl) (by kernel_rfl) (by kernel_rfl) (fun _ _ _ h => h) (Or.inl ⟨by rfl, ?hy201⟩) (by assumption) ?rest201
                  case hy201 => (intro wq hSw; (try simp only [Two, AX] at hSw); go_simp; try with_reducible rfl)
                  try simp only [Act.put, List.setIfInBounds_toArray, List.set_cons_zero, List.set_cons_succ]
                  refine wpAnyH_take (i := 1) (oi := _) (v := ?v202) (List.getElem?_toArray.trans rfl) (by kernel_rfl) (by kernel_rfl) (by kernel_rfl) (fun _ _ _ h => h) (Or.inl ⟨by rfl, ?hy202⟩) (by assumption) ?rest202
                  case hy202 => (intro wq hSw; (try simp only [Two, AX] at hSw); go_simp; try with_reducible rfl)
                  try simp only [Act.put, List.setIfInBounds_toArray, List.set_cons_zero, List.set_cons_succ]
                  refine wpAnyH_take (i := 2) (oi := _) (v := ?v203) (List.getElem?_toArray.trans rfl) (by kernel_rfl) (by kernel_rfl) (by kernel_rfl) (fun _ _ _ h => h) (Or.inl ⟨by rfl, ?hy203⟩) (by assumption) ?rest203
                  case hy203 => (intro wq hSw; (try simp only [Two, AX] at hSw); go_simp; try with_reducible rfl)
                  try simp only [Act.put, List.setIfInBounds_toArray, List.set_cons_zero, List.set_cons_succ]
                  refine wpAnyH_take (i := 3) (oi := _) (v := ?v204) (List.getElem?_toArray.trans rfl) (by kernel_rfl) (by kernel_rfl) (by kernel_rfl) (fun _ _ _ h => h) (Or.inl ⟨by rfl, ?hy204⟩) (by assumption) ?rest204
                  case hy204 => (intro wq hSw; (try simp only [Two, AX] at hSw); go_simp; try with_reducible rfl)
                  try simp only [Act.put, List.setIfInBounds_toArray, List.set_cons_zero, List.set_cons_succ]
                  refine wpAnyH_take (i := 4) (oi := _) (v := ?v205) (List.getElem?_toArray.trans rfl) (by kernel_rfl) (by kernel_rfl) (by kernel_rfl) (fun _ _ _ h => h) (Or.inl ⟨by rfl, ?hy205⟩) (by assumption) ?rest205
                  case hy205 => (intro wq hSw; (try simp only [Two, AX] at hSw); go_simp; try with_reducible rfl)
                  try simp only [Act.put, List.setIfInBounds_toArray, List.set_cons_zero, List.set_cons_succ]
                  refine wpAnyH_ready (rs := [5]) (by kernel_rfl) (by simp) ?rdy206
                  refine AllReadyH.cons (List.getElem?_toArray.trans rfl) (fun K hK => ?stp206) AllReadyH.nil
                  go_simp
                  go_wp2_with fail
                  (refine (UU.out _).mono ?_; rintro e w7 ⟨rfl, hb4⟩)
                  go_wp2_with fail
                  refine hK.out _ _ ?hSn206 (fun hHeld2 => ?rest206)
                  case hSn206 => (first | with_reducible exact O0.drew | with_reducible exact hHeld.below hb4)
                  clear hK K hHeld
                  have hHeld := hHeld2
                  clear hHeld2
                  try simp only [Act.put, List.setIfInBounds_toArray, List.set_cons_zero, List.set_cons_succ]
                  refine wpAnyH_done (by kernel_rfl) ?fin200 _
                  have S9 := hide hHeld.2.out.1
                  have K9 := hide hHeld.2.out.2
                  clear hHeld O0 UU hb4
                  go_wp2
                  go_roundw
                  case rel => exact ⟨z + 1, HZ1.out, by go_num, S9, K9⟩
                  case measure => have := HZ1.out; simp [intOf]; omega
                · have hzl' : ¬ (z : Int) < (gs.length : Nat) := by omega
                  obtain ⟨qa, cap0, hu10⟩ : ∃ qa cap0, u10 = .slice qa gs.length cap0 := by
                    rcases S8.out.row.2 with ⟨h1, h2⟩ | ⟨gB, cap, cur, h1, _⟩
                    · exact ⟨none, 0, by rw [h1, h2]⟩
                    · exact ⟨some ⟨gB, 0, none⟩, cap, h1⟩
                  subst hu10
                  obtain ⟨y0, y1, y2, y3, y4, y5, y6, y7, y8⟩ := K8.out.2.1.1.four
                  have hs9 : base ≤ wr.heap.size := S8.out.bs
                  have N4 := four_new7 wr (.bool v) (.int .u64 rh) (.int .u64 rl) (.int .i64 k) 28
                  have hone : ∀ u ∈ [Value.bool v, .int .u64 rh, .int .u64 rl, .int .i64 k], u.oneCell' = true := by
                    intro u hu
                    simp at hu
                    rcases hu with rfl | rfl | rfl | rfl <;> rfl
                  clear U1H K8
                  go_wp2_with (first | (at_builtin; refine wpList_append_own _ rfl _ _ 72 rfl base 28 i0 (.agg #[.bool false, .int .u64 0, .int .u64 0, .int .i64 0]) 4 32 Tryz.underlying72 hinf hz0 hz1 hz2 rfl (by decide) _ _ _ rfl (S8.out.row.alloc _) ⟨wr.heap.size, 0, none⟩ 1 1 [.bool v, .int .u64 rh, .int .u64 rl, .int .i64 k] rfl rfl N4 hone ?c3 ?c4 ?c5 ?_))
                  case c3 => unfold maxLen; omega
                  case c4 => omega
                  case c5 => first | omega | (simp; omega)
                  intro v' w10 hown hgrow _
                  rw [← HA.out, ← HB.out] at hown
                  have S10 := hide (S8.out.grown hown hgrow)
                  clear S8 hown hgrow N4 hone y0 y1 y2 y3 y4 y5 y6 y7 y8
                  go_wp2
                  go_roundw
                  case rel => exact ⟨i + 1, upd f1 p true, cu2, gs ++ [p], by omega, by go_num, by have := HGL.out; simp; omega, G1, S10⟩
                  case measure => simp [intOf]; omega
        · have hiM' : ¬ (i : Int) < M := by omega
          have hcnt : cnt f1 N = N := by
            have a1 := G.out.num
            have a2 := HM.out
            omega
          have hnx := next_none7 (s := cu) S.out.st.p.cur hcnt
          have N1 := hide (NF.out f1 cu hnx x a g wr (TH.out _ S.out.st.kn.bel) S.out.st.p)
          have L1 := hide (fun w' P' => LF.out f1 cu 0 (by omega) x a g w' P')
          have U1 := hide (fun w' P' => US.out f1 cu x a g w' P')
          have Z1 := hide (fun w' P' => SZ.out f1 cu x a g w' P')
          have HC := hide hcnt
          clear NX NF WI OV OQ LF SZ US hnx hcnt HM C G
          go_wp2_with fail
          refine N1.out.mono ?_
          rintro e w4 ⟨rfl, hb⟩
          have bl : Below w4.heap.size w4 (w4.alloc (.cells #[.bool false, .int .u64 0, .int .u64 0, .int .i64 0] 28)) := by repeat (first | with_reducible exact Below.refl _ _ | with_reducible refine Below.drew ?_ | with_reducible refine Below.alloc ?_ (by first | omega | (simp <;> omega)) _ | with_reducible refine Below.setCell ?_ (by first | omega | (simp <;> omega)) _)
          have S5 := hide ((S.out.below hb).below bl)
          have L2 := hide (L1.out _ S5.out.st.p)
          clear N1 hb bl S L1
          go_wp2_with fail
          refine L2.out.mono ?_
          rintro e w5 ⟨rfl, hb⟩
          have S6 := hide (S5.out.below hb)
          have U2 := hide (U1.out w5 S6.out.st.p)
          clear L2 hb S5 U1
          go_wp2_with fail
          refine U2.out.mono ?_
          rintro e w6 ⟨sv, rfl, ho, hb⟩
          have S7 := hide (S6.out.below hb)
          have Z2 := hide (Z1.out w6 S7.out.st.p)
          obtain ⟨qa, cap0, hsv⟩ : ∃ qa cap0, sv = .slice qa N cap0 := by
            rw [HC.out] at ho
            rcases ho.2 with ⟨h1, h2⟩ | ⟨gB, cap, cur, h1, _⟩
            · exact ⟨none, 0, by rw [h1, h2]⟩
            · exact ⟨some ⟨gB, 0, none⟩, cap, h1⟩
          subst hsv
          clear U2 hb ho S6 Z1 HC
          go_wp2_with fail
          refine Z2.out.mono ?_
          rintro e w6 ⟨rfl, rfl⟩
          have B7 := S7.out.st.kn.bel
          clear Z2 S7
          go_wp2
          go_ret
          exact ⟨by first | rfl | simp, B7⟩

theorem bapart_walk {v : Bool} {h l b k : Int} {n len cap bo oo : Nat} {xo : Option Addr} (hp : IsNum h l n) (w : World) (hA : PfxsAt w xo len bo oo) (hL : LW w) (hT : TB w) :
    Calls Tryz.prog 6 #[pv v h l b, .int .i64 k, .slice xo len cap] w fun e w' => e = .returned (.bool true) ∧ Below w.heap.size w w' := by
  cases hs : smB v n b k
  · exact bapart_out hp hA.2.1 (Or.inl hs) w hL hT
  · by_cases c3 : 20 < len
    · exact bapart_out hp hA.2.1 (Or.inr ⟨hs, c3⟩) w hL hT
    · obtain ⟨O, hN⟩ := smB_of hp hs
      exact bapart_main O hN hs (by omega) w hA hL hT
end Go.Proofs.YtllidkflgjjkfaaGreatDoor
