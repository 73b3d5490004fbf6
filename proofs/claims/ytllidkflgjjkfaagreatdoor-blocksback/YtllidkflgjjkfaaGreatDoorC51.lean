/-
  Texts SeT6 of the proof.
-/
import Derived.Test.YtllidkflgjjkfaaGreatDoorC50
import Derived.Test.YtllidkflgjjkfaaGreatDoorC47
import Derived.Test.YtllidkflgjjkfaaGreatDoorC0

namespace Go.Proofs.YtllidkflgjjkfaaGreatDoor
open Go.ChangeShapes Go.WideShapes Go.ChangeAt Go.RowKit
set_option linter.unusedVariables false
set_option linter.unusedSimpArgs false

theorem usedL_filter {f f3 o : Nat → Bool} (h : ∀ p, f3 p = (f p && !o p)) : ∀ N, usedL f3 N = (usedL f N).filter (fun p => !o p)
  | 0 => rfl
  | N + 1 => by
    simp only [usedL]
    rw [usedL_filter h N]
    cases hf : f N
    · rw [h N, hf]; simp
    · rw [if_pos rfl, List.filter_append]
      cases ho : o N
      · rw [h N, hf, ho]; simp [ho]
      · rw [h N, hf, ho]; simp [ho]

theorem setO_back {v u : Bool} {n m N : Nat} {k c : Int} {f : Nat → Bool} (p : Nat) : setO v n k N u m c false (setO v n k N u m c true f) p = (f p && !ovP v n k N u m c p) := by
  unfold setO
  cases ovP v n k N u m c p <;> simp

theorem filter_take {l : List Nat} {q : Nat → Bool} {i : Nat} (hi : i < l.length) : (l.take (i + 1)).filter q = (l.take i).filter q ++ (if q l[i] then [l[i]] else []) := by
  rw [List.take_add_one, List.filter_append, List.getElem?_eq_getElem hi]
  simp [List.filter]
  split <;> simp_all

theorem own_blk {W W' : World} {base size q B : Nat} {e : TypeId} {sv : Value} {xs : List Value} (h : W.ownsRow base e size sv q xs) (hb : ∀ g, sv.ownBlock = some g → g < B) (kb : Below B W W') : W'.ownsRow base e size sv q xs := by
  refine ⟨h.1, ?_⟩
  rcases h.2 with h1 | ⟨g', cap, cur, h1, h2, h3, h4⟩
  · exact Or.inl h1
  · exact Or.inr ⟨g', cap, cur, h1, h2, (kb.block g' (hb g' (by rw [h1]; rfl))).trans h3, h4⟩

theorem own_bute {W W' : World} {base size q g : Nat} {e : TypeId} {sv : Value} {xs : List Value} (h : W.ownsRow base e size sv q xs) (hne : sv.ownBlock ≠ some g) (kb : But [g] W.heap.size W W') : W'.ownsRow base e size sv q xs := by
  refine ⟨h.1, ?_⟩
  rcases h.2 with h1 | ⟨g', cap, cur, h1, h2, h3, h4⟩
  · exact Or.inl h1
  · refine Or.inr ⟨g', cap, cur, h1, h2, (kb.block g' (Array.getElem?_eq_some_iff.1 h3).1 ?_).trans h3, h4⟩
    simp only [List.mem_cons, List.not_mem_nil, or_false]
    rintro rfl
    exact hne (by rw [h1]; rfl)

theorem map_ne {W : World} {a g N base size q : Nat} {f : Nat → Bool} {sv : Value} {xs : List Value} (H : MapB W a g N f) (h : W.ownsRow base 28 size sv q xs) : sv.ownBlock ≠ some g := by
  obtain ⟨⟨ws, hm, _⟩, _⟩ := H
  exact own_ne7 h hm.row (by decide)

/-- What the law's last loop keeps. -/
structure BSt (w : World) (base B0 : Nat) (L : List (Nat × List Value × TypeId)) (v : Bool) (h l b k : Int) (x a g r gl cap gu n N : Nat) (f : Nat → Bool) (c : Nat) (f2 : Nat → Bool) (c2 : Nat) (uw : Value) (gs : List Nat) (u : Value) (ws : List Nat) (W : World) : Prop where
  st : PSt w L v h l b k x a g r gl cap gu n N f c f2 c2 W
  was : W.ownsRow B0 28 4 uw gs.length (cellsQ v n k gs)
  row : W.ownsRow base 28 4 u ws.length (cellsQ v n k ws)
  lt : x < base ∧ a < base ∧ g < base ∧ r < base ∧ gl < base ∧ gu < base ∧ w.heap.size ≤ base
  ll : ∀ e ∈ L, e.1 < base
  lu : ∀ g, uw.ownBlock = some g → g < base
  bs : base ≤ W.heap.size

theorem BSt.below {w : World} {base B0 : Nat} {L : List (Nat × List Value × TypeId)} {v : Bool} {h l b k : Int} {x a g r gl cap gu n N : Nat} {f : Nat → Bool} {c : Nat} {f2 : Nat → Bool} {c2 : Nat} {uw : Value} {gs : List Nat} {u : Value} {ws : List Nat} {W W' : World} (S : BSt w base B0 L v h l b k x a g r gl cap gu n N f c f2 c2 uw gs u ws W) (q : Below W.heap.size W W') : BSt w base B0 L v h l b k x a g r gl cap gu n N f c f2 c2 uw gs u ws W' :=
  ⟨S.st.below q, own_below S.was q, own_below S.row q, S.lt, S.ll, S.lu, Nat.le_trans S.bs q.size⟩

theorem blks_keep {B : Nat} {W W' : World} (q : Below B W W') : ∀ {L : List (Nat × List Value × TypeId)}, (∀ e ∈ L, e.1 < B) → Blks W L → Blks W' L
  | [], _, _ => trivial
  | e :: r, h, hb => ⟨(But.of (L := []) q (Nat.le_refl _)).blk hb.1 (h e (by simp)) (by simp), blks_keep q (fun e he => h e (by simp [he])) hb.2⟩

theorem BSt.grown {w : World} {base B0 : Nat} {L : List (Nat × List Value × TypeId)} {v : Bool} {h l b k : Int} {x a g r gl cap gu n N : Nat} {f : Nat → Bool} {c : Nat} {f2 : Nat → Bool} {c2 : Nat} {uw : Value} {gs : List Nat} {u u' : Value} {ws : List Nat} {p : Nat} {o : Obj} {W W' : World} (S : BSt w base B0 L v h l b k x a g r gl cap gu n N f c f2 c2 uw gs u ws W) (hown : W'.ownsRow base 28 4 u' (ws.length + 1) (cellsQ v n k ws ++ [.bool v, .int .u64 ((blkN v n k p / 18446744073709551616 : Nat) : Int), .int .u64 ((blkN v n k p % 18446744073709551616 : Nat) : Int), .int .i64 k])) (hg : (W.alloc o).grownBy W' u.ownBlock) : BSt w base B0 L v h l b k x a g r gl cap gu n N f c f2 c2 uw gs u' (ws ++ [p]) W' := by
  have B : Below base W W' := below_grown (Below.refl _ _) S.bs S.row hg
  obtain ⟨l1, l2, l3, l4, l5, l6, l7⟩ := S.lt
  have z := S.st
  refine ⟨⟨Kn.of (blks_keep B S.ll z.kn.2.1) (z.kn.bel.trans (B.mono l7)), z.p.keep B l1 l2 l3, z.rr.keep B l4 l5 l6, z.og, z.ox, z.ou, z.orr, z.fr⟩, own_blk S.was S.lu B, ?_, S.lt, S.ll, S.lu, Nat.le_trans S.bs B.size⟩
  rw [List.length_append, cellsQ_add]
  exact hown

/-- What a round of the last loop reads. -/
def ZX (B o : Nat) (v : Bool) (rh rl k : Int) (Q : Nat) (u : Bool) (qh ql cq : Int) (Z : World → Prop) (W : World) : Prop :=
  (W.cell? ⟨B, o, none⟩ = some (.bool v) ∧ W.cell? ⟨B, o + 1, none⟩ = some (.int .u64 rh) ∧ W.cell? ⟨B, o + 2, none⟩ = some (.int .u64 rl) ∧ W.cell? ⟨B, o + 3, none⟩ = some (.int .i64 k) ∧ W.cell? ⟨Q, 0, none⟩ = some (.bool u) ∧ W.cell? ⟨Q, 1, none⟩ = some (.int .u64 qh) ∧ W.cell? ⟨Q, 2, none⟩ = some (.int .u64 ql) ∧ W.cell? ⟨Q, 3, none⟩ = some (.int .i64 cq)) ∧ Hid (Z W)

theorem ZX.below {B o : Nat} {v : Bool} {rh rl k : Int} {Q : Nat} {u : Bool} {qh ql cq : Int} {Z : World → Prop} {W W' : World} (s : ZX B o v rh rl k Q u qh ql cq Z W) (q : Below W.heap.size W W') (z : Z W → Z W') : ZX B o v rh rl k Q u qh ql cq Z W' := by
  obtain ⟨⟨a0, a1, a2, a3, b0, b1, b2, b3⟩, s2⟩ := s
  have e : ∀ {B o v}, W.cell? ⟨B, o, none⟩ = some v → W'.cell? ⟨B, o, none⟩ = some v := fun {B o v} hh => ((bcell q).1 B o (cell_in8 hh)).trans hh
  exact ⟨⟨e a0, e a1, e a2, e a3, e b0, e b1, e b2, e b3⟩, z s2.out⟩

theorem ZX.drew {B o : Nat} {v : Bool} {rh rl kk : Int} {Q : Nat} {uu : Bool} {qh ql cq : Int} {w : World} {base B0 : Nat} {L : List (Nat × List Value × TypeId)} {h l b k : Int} {x a g r gl cap gu n N : Nat} {f : Nat → Bool} {c : Nat} {f2 : Nat → Bool} {c2 : Nat} {uw : Value} {gs : List Nat} {u : Value} {ws : List Nat} {W : World} (s : ZX B o v rh rl kk Q uu qh ql cq (BSt w base B0 L v h l b k x a g r gl cap gu n N f c f2 c2 uw gs u ws) W) : ZX B o v rh rl kk Q uu qh ql cq (BSt w base B0 L v h l b k x a g r gl cap gu n N f c f2 c2 uw gs u ws) W.drew :=
  s.below (by repeat (first | with_reducible exact Below.refl _ _ | with_reducible refine Below.drew ?_ | with_reducible refine Below.alloc ?_ (by first | omega | (simp <;> omega)) _ | with_reducible refine Below.setCell ?_ (by first | omega | (simp <;> omega)) _)) (fun z => z.below (by repeat (first | with_reducible exact Below.refl _ _ | with_reducible refine Below.drew ?_ | with_reducible refine Below.alloc ?_ (by first | omega | (simp <;> omega)) _ | with_reducible refine Below.setCell ?_ (by first | omega | (simp <;> omega)) _)))

set_option maxRecDepth 100000 in
set_option maxHeartbeats 1600000 in
theorem bback_out {v u : Bool} {h l b k qh ql cq : Int} {n len cap : Nat} {xo : Option Addr} (hp : IsNum h l n) (sm : smB v n b k = false) (w : World) (hL : LW w) (hT : TB w) :
    Calls Tryz.prog 7 #[pv v h l b, .int .i64 k, .slice xo len cap, pv u qh ql cq] w fun e w' => e = .returned (.bool true) ∧ Below w.heap.size w w' := by
  have hz := hL.sz
  have K := bg_start w v h l b u qh ql cq
  have AW := hide (awake7_c _ (hL.of K.bel hz) (hT.below K.bel))
  have SM := hide (fun w' => small7_c (v := v) (b := b) (k := k) hp w')
  rw [sm] at SM
  have KH := hide K
  clear hL hT hz hp K sm
  go_enter Tryz.func7, Tryz.ntmps7
  go_wp2_with fail
  refine AW.out.mono ?_
  rintro e w0 ⟨rfl, hb⟩
  have K0 := hide (KH.out.below hb)
  have F := K0.out.1
  simp only [Facts, CellsAt] at F
  clear AW hb KH
  go_wp2_with fail
  refine (SM.out _).mono ?_
  rintro e w1 ⟨rfl, hb⟩
  have B := (K0.out.below hb).bel
  clear SM hb K0 F
  go_wp2
  go_ret
  exact ⟨by first | rfl | simp, B⟩

set_option maxRecDepth 100000 in
set_option maxHeartbeats 6400000 in
theorem bback_main {v uu : Bool} {h l b k qh0 ql0 cq0 : Int} {n N m0 len cap bo oo : Nat} {xo : Option Addr} (O : SetOf v h l b k n N) (hN : N ≤ 256) (hs : smB v n b k = true) (hq0 : IsNum qh0 ql0 m0) (w : World) (hA : BActsAt w xo len bo oo) (hL : LW w) (hT : TB w) :
    Calls Tryz.prog 7 #[pv v h l b, .int .i64 k, .slice xo len cap, pv uu qh0 ql0 cq0] w fun e w' => e = .returned (.bool true) ∧ Below w.heap.size w w' := by
  have hz := hL.sz
  have K := bg_start w v h l b uu qh0 ql0 cq0
  have AW := hide (awake7_c _ (hL.of K.bel hz) (hT.below K.bel))
  have NW := hide (fun w' => snew_c O w')
  have SM := hide (fun w' => small7_c (v := v) (b := b) (k := k) O.num w')
  rw [hs] at SM
  have RN := hide (fun w' => rnew7_c O hN w')
  have DO := hide (fun (K : Int) (u : Bool) (qh ql cq A : Int) (m : Nat) (hq : IsNum qh ql m) x a g r gl cp gu f c L W (S : PSt w L v h l b k x a g r gl cp gu n N f c f c W) => does7_c (K := K) (u := u) (cq := cq) (A := A) O hT hq S)
  have US := hide (fun x a g f c W (P : SetAt W v h l b k x a g N f c) => used8_c O W P)
  obtain ⟨o, ho⟩ : ∃ o, ovP v n k N uu m0 cq0 = o := ⟨_, rfl⟩
  have OC := hide (fun x a g f c W (P : SetAt W v h l b k x a g N f c) => occ_c (u := uu) (c := cq0) O hq0 rfl rfl rfl W P)
  have RL := hide (fun x a g f c W (P : SetAt W v h l b k x a g N f c) => rel_c (u := uu) (c := cq0) O hq0 rfl rfl rfl W P)
  have OV := hide (fun (i : Nat) (hi : i < N) (rh rl : Int) (hrh : ((blkN v n k i / 18446744073709551616 : Nat) : Int) = rh) (hrl : ((blkN v n k i % 18446744073709551616 : Nat) : Int) = rl) w' => rover_c (v := v) (u := uu) (b := k) (c := cq0) (hrl ▸ hrh ▸ num_parts7 (blk_ok O.cut O.num.lt (by rw [O.len]; exact hi)).2) hq0 w')
  have FO : Hid (∀ i, i < N → overB v (blkN v n k i) k uu m0 cq0 = o i) := fun i hi => by rw [← ho]; unfold ovP; rw [decide_eq_true hi, Bool.true_and]
  have SB : Hid (∀ (f : Nat → Bool) p, setO v n k N uu m0 cq0 false (setO v n k N uu m0 cq0 true f) p = (f p && !o p)) := fun f p => by rw [← ho]; exact setO_back p
  have AC := hide hA
  obtain ⟨i0, hinf, hz0, hz1, hz2⟩ := info_parts infoPfx7
  have KH := hide K
  clear hL hz O K hT hA hs hq0 ho
  go_enter Tryz.func7, Tryz.ntmps7
  go_wp2_with fail
  refine AW.out.mono ?_
  rintro e w0 ⟨rfl, hb⟩
  have K0 := hide (KH.out.below hb)
  have F := K0.out.1
  simp only [Facts, CellsAt] at F
  clear AW hb KH
  go_wp2_with fail
  refine (SM.out _).mono ?_
  rintro e w2 ⟨rfl, hb⟩
  have K1 := hide (K0.out.below hb)
  have F1 := K1.out.1
  simp only [Facts, CellsAt] at F1
  clear SM hb K0 F
  go_wp2_with fail
  refine (NW.out _).mono ?_
  rintro e w1 ⟨x, a, g, rfl, hP, hb, hx, hg, ha⟩
  have K2 := hide (K1.out.below hb)
  have P2 := hide hP
  have fr1 : Hid (w.heap.size + 1 < g ∧ w.heap.size + 1 < x) := by have := K1.out.lts.1; show _ ∧ _; omega
  have F2 := K2.out.1
  simp only [Facts, CellsAt] at F2
  clear NW hb K1 F1 hP hx hg ha
  go_wp2_with fail
  refine (RN.out _).mono ?_
  rintro e w3 ⟨r, gl, cp, gu, rfl, hR, hb, hr, hgl, hgu⟩
  have S3 : Hid (PSt w [(w.heap.size + 1, [.bool uu, .int .u64 qh0, .int .u64 ql0, .int .i64 cq0], 28), (w.heap.size, [.bool v, .int .u64 h, .int .u64 l, .int .i64 b], 28)] v h l b k x a g r gl cp gu n N (fun _ => false) 0 (fun _ => false) 0 w3) := by
    have q := K2.out.lts.1
    have z := fr1.out
    exact ⟨K2.out.below hb, P2.out.below hb, hR, ⟨by show w.heap.size + 1 ≠ g; omega, by show w.heap.size ≠ g; omega, trivial⟩, ⟨by show w.heap.size + 1 ≠ x; omega, by show w.heap.size ≠ x; omega, trivial⟩, ⟨by show w.heap.size + 1 ≠ gu; omega, by show w.heap.size ≠ gu; omega, trivial⟩, ⟨by show w.heap.size + 1 ≠ r; omega, by show w.heap.size ≠ r; omega, trivial⟩, by omega⟩
  have F3 := S3.out.kn.1
  simp only [Facts, CellsAt] at F3
  clear RN hb K2 P2 F2 hR hr hgl hgu fr1
  go_wp2_with fail
  go_loopw [9, 13] (fun sv iv wr => ∃ (i x a g c : Nat) (f : Nat → Bool), i ≤ len ∧ i ≤ 60 ∧ iv = .int .i64 i ∧ sv = .pointer (some ⟨x, 0, none⟩) ∧ Hid (PSt w [(w.heap.size + 1, [.bool uu, .int .u64 qh0, .int .u64 ql0, .int .i64 cq0], 28), (w.heap.size, [.bool v, .int .u64 h, .int .u64 l, .int .i64 b], 28)] v h l b k x a g r gl cp gu n N f c f c wr)) (fun _ iv _ => 60 - (intOf iv).toNat)
  case atStart => exact ⟨0, x, a, g, 0, _, by omega, by omega, rfl, rfl, S3⟩
  case round =>
    clear S3 F3
    obtain ⟨i, x, a, g, c, f, hi, hi60, rfl, rfl, S⟩ := hrel
    have F := S.out.kn.1
    simp only [Facts, CellsAt] at F
    by_cases hlt : i < len ∧ i < 60
    · have hl1 : (i : Int) < len := by omega
      have hl2 : (i : Int) < 60 := by omega
      obtain ⟨hxo, _, hc⟩ := AC.out
      obtain ⟨K, u, qh, ql, m, cq, A, hq, hA, e0, e1, e2, e3, e4, e5⟩ := hc i hlt.1
      obtain rfl : xo = some ⟨bo, oo, none⟩ := hxo.resolve_right (by omega)
      have D1 := hide (DO.out K u qh ql cq A m hq x a g r gl cp gu f c _ wr S.out)
      have tr : Hid (∀ W, Below w.heap.size w W → ∀ o v, w.cell? ⟨bo, o, none⟩ = some v → W.cell? ⟨bo, o, none⟩ = some v) := fun W bl o v hh => ((bcell bl).1 _ _ (cell_in7 hh)).trans hh
      have bl := S.out.kn.bel
      have d0 := tr.out _ bl _ _ e0
      have d1 := tr.out _ bl _ _ e1
      have d2 := tr.out _ bl _ _ e2
      have d3 := tr.out _ bl _ _ e3
      have d4 := tr.out _ bl _ _ e4
      have d5 := tr.out _ bl _ _ e5
      clear hc hq hA e0 e1 e2 e3 e4 e5 hxo bl DO US S F tr OC RL OV
      go_wp2_with fail
      refine D1.out.mono ?_
      rintro e w4 ⟨x2, a2, g2, f2, c2, rfl, hS⟩
      have S4 := hide hS
      clear D1 hS d0 d1 d2 d3 d4 d5
      go_wp2
      go_roundw
      case rel => exact ⟨i + 1, x2, a2, g2, c2, f2, by omega, by omega, by go_num, rfl, S4⟩
      case measure => simp [intOf]; omega
    · have U1 := hide (US.out x a g f c wr S.out.p)
      have U2 := hide (fun f1 W P => US.out x a g f1 c W P)
      have OC1 := hide (fun f1 W P => OC.out x a g f1 c W P)
      have RL1 := hide (fun f1 W P => RL.out x a g f1 c W P)
      clear DO US AC OC RL
      rcases (show (¬ (i : Int) < len) ∨ ((i : Int) < len ∧ ¬ (i : Int) < 60) by omega) with hl1 | ⟨hl1, hl2⟩
      · clear hlt
        go_wp2_with fail
        refine U1.out.mono ?_
        rintro e w4 ⟨uw, rfl, hw, hb⟩
        have S4 := hide (S.out.below hb)
        obtain ⟨bw, hbw⟩ : ∃ bw, wr.heap.size = bw := ⟨_, rfl⟩
        rw [hbw] at hw
        have OW := hide hw
        clear hbw
        have F4 := S4.out.kn.1
        simp only [Facts, CellsAt] at F4
        have OC2 := hide (OC1.out _ _ S4.out.p)
        clear U1 hb hw S F OC1 hi hi60
        go_wp2_with fail
        refine OC2.out.mono ?_
        rintro e w5 ⟨rfl, hP5, hK5⟩
        have S5 := hide (S4.out.turnP hP5 (hK5.mono (Nat.le_refl _) (M := [g, x]) (fun y hy _ => by simp at hy ⊢; exact Or.inl hy)))
        have W5 := hide (own_bute OW.out (map_ne S4.out.p.m OW.out) hK5)
        have F5 := S5.out.kn.1
        simp only [Facts, CellsAt] at F5
        have RL2 := hide (RL1.out _ _ S5.out.p)
        clear OC2 hP5 hK5 S4 OW F4 RL1
        go_wp2_with fail
        refine RL2.out.mono ?_
        rintro e w6 ⟨rfl, hP6, hK6⟩
        have S6 := hide (S5.out.turnP hP6 (hK6.mono (Nat.le_refl _) (M := [g, x]) (fun y hy _ => by simp at hy ⊢; exact Or.inl hy)))
        have W6 := hide (own_bute W5.out (map_ne S5.out.p.m W5.out) hK6)
        obtain ⟨f3, hf3⟩ : ∃ f3, setO v n k N uu m0 cq0 false (setO v n k N uu m0 cq0 true f) = f3 := ⟨_, rfl⟩
        have SB3 : Hid (usedL f3 N = (usedL f N).filter (fun p => !o p)) := usedL_filter (fun p => by rw [← hf3]; exact SB.out f p) N
        rw [hf3] at S6
        have bl : Below w6.heap.size w6 (w6.alloc (.cells #[] 28)) := by repeat (first | with_reducible exact Below.refl _ _ | with_reducible refine Below.drew ?_ | with_reducible refine Below.alloc ?_ (by first | omega | (simp <;> omega)) _ | with_reducible refine Below.setCell ?_ (by first | omega | (simp <;> omega)) _)
        have gm : Hid (∀ p, p ∈ usedL f N → p < N) := fun p hp => (usedL_mem hp).1
        obtain ⟨gs, hgs⟩ : ∃ gs, usedL f N = gs := ⟨_, rfl⟩
        have gl2 : gs.length ≤ 256 := by rw [← hgs, usedL_len]; have := cnt_le f N; omega
        rw [hgs] at W6 SB3 gm
        have B0 : Hid (BSt w w6.heap.size bw [(w.heap.size + 1, [.bool uu, .int .u64 qh0, .int .u64 ql0, .int .i64 cq0], 28), (w.heap.size, [.bool v, .int .u64 h, .int .u64 l, .int .i64 b], 28)] v h l b k x a g r gl cp gu n N f3 c f c uw gs (.slice (some ⟨w6.heap.size, 0, none⟩) 0 0) [] (w6.alloc (.cells #[] 28))) := by
          have p := S6.out.p.lt
          have q := S6.out.rr.lt
          exact ⟨S6.out.below bl, own_below W6.out bl, World.ownsRow_made _ _ _ (Nat.le_refl _) (Nat.zero_le _) rfl, ⟨p.1, p.2.1, p.2.2, q.1, q.2.1, q.2.2, S6.out.kn.bel.size⟩, lts_mem S6.out.kn.lts, fun g' h' => (W6.out.lt g' h').2, bl.size⟩
        obtain ⟨xq, cq, huw, _⟩ := row_at8 W6.out
        subst huw
        clear RL2 hP6 hK6 S5 W5 F5 S6 W6 hf3 bl hgs SB
        go_wp2_with fail
        obtain ⟨base, hbase⟩ : ∃ base, w6.heap.size = base := ⟨_, rfl⟩
        rw [hbase] at B0 ⊢
        clear hbase
        go_loopw [17, 18] (fun uv iv wr2 => ∃ (i : Nat) (ws : List Nat), i ≤ gs.length ∧ ws.length ≤ i ∧ iv = .int .i64 i ∧ Hid (ws = (gs.take i).filter (fun p => !o p)) ∧ Hid (BSt w base bw [(w.heap.size + 1, [.bool uu, .int .u64 qh0, .int .u64 ql0, .int .i64 cq0], 28), (w.heap.size, [.bool v, .int .u64 h, .int .u64 l, .int .i64 b], 28)] v h l b k x a g r gl cp gu n N f3 c f c (.slice xq gs.length cq) gs uv ws wr2)) (fun _ iv _ => gs.length - (intOf iv).toNat)
        case atStart => exact ⟨0, [], by omega, by simp, rfl, rfl, B0⟩
        case round =>
          clear B0
          obtain ⟨i, ws, hi, hwl, rfl, HW, S⟩ := hrel
          by_cases hlt : i < gs.length
          · have hlt' : (i : Int) < (gs.length : Nat) := by omega
            obtain ⟨x1, c1, e1, r1⟩ := row_at8 S.out.was
            injection e1 with e1 e2 e3
            subst e1 e3
            clear e2
            obtain ⟨B, rfl, c0, c1, c2, c3⟩ := r1 i hlt
            obtain ⟨rh, hrh⟩ : ∃ rh : Int, ((blkN v n k gs[i] / 18446744073709551616 : Nat) : Int) = rh := ⟨_, rfl⟩
            obtain ⟨rl, hrl⟩ : ∃ rl : Int, ((blkN v n k gs[i] % 18446744073709551616 : Nat) : Int) = rl := ⟨_, rfl⟩
            have gN := gm.out gs[i] (List.getElem_mem hlt)
            have O1 := hide (OV.out gs[i] gN rh rl hrh hrl)
            rw [FO.out _ gN] at O1
            have HT := hide (filter_take (q := fun p => !o p) hlt)
            rw [hrh] at c1
            rw [hrl] at c2
            have HA := hide hrh
            have HB := hide hrl
            have kq := S.out.st.kn.2.1.1
            have Z0 : ZX B (i * 4) v rh rl k (w.heap.size + 1) uu qh0 ql0 cq0 (BSt w base bw [(w.heap.size + 1, [.bool uu, .int .u64 qh0, .int .u64 ql0, .int .i64 cq0], 28), (w.heap.size, [.bool v, .int .u64 h, .int .u64 l, .int .i64 b], 28)] v h l b k x a g r gl cp gu n N f3 c f c (.slice (some ⟨B, 0, none⟩) gs.length cq) gs u17 ws) wr := ⟨⟨c0, c1, c2, c3, kq.cell 0, kq.cell 1, kq.cell 2, kq.cell 3⟩, S.out⟩
            cases hoi : o gs[i]
            · rw [hoi] at O1
              have HW2 : Hid (ws ++ [gs[i]] = (gs.take (i + 1)).filter (fun p => !o p)) := by
                show _ = _
                rw [HT.out, ← HW.out, hoi]
                rfl
              clear hrh hrl HT HW hoi c0 c1 c2 c3 kq S r1
              go_wp2_with fail
              refine wp_region_held_drew (S := (ZX B (i * 4) v rh rl k (w.heap.size + 1) uu qh0 ql0 cq0 (BSt w base bw [(w.heap.size + 1, [.bool uu, .int .u64 qh0, .int .u64 ql0, .int .i64 cq0], 28), (w.heap.size, [.bool v, .int .u64 h, .int .u64 l, .int .i64 b], 28)] v h l b k x a g r gl cp gu n N f3 c f c (.slice (some ⟨B, 0, none⟩) gs.length cq) gs u17 ws))) (by kernel_rfl) ?hS100 (fun hHeld => ?rest100)
              case hS100 => (first | with_reducible exact Z0.drew | with_reducible exact hHeld.below hb4 (fun z => z.below hb4))
              refine wtk7 (i := 0) (v := ?v101) (ga7 rfl) (by kernel_rfl) (fun _ _ _ h => h) ⟨by rfl, ?hy101⟩ (by assumption) ?rest101
              case hy101 => (intro wq hSw; (try simp only [Two, ZX] at hSw); go_simp; try with_reducible rfl)
              try simp only [Act.put, sa7, sb7, sc7]
              refine wtk7 (i := 1) (v := ?v102) (ga7 rfl) (by kernel_rfl) (fun _ _ _ h => h) ⟨by rfl, ?hy102⟩ (by assumption) ?rest102
              case hy102 => (intro wq hSw; (try simp only [Two, ZX] at hSw); go_simp; try with_reducible rfl)
              try simp only [Act.put, sa7, sb7, sc7]
              refine wtk7 (i := 2) (v := ?v103) (ga7 rfl) (by kernel_rfl) (fun _ _ _ h => h) ⟨by rfl, ?hy103⟩ (by assumption) ?rest103
              case hy103 => (intro wq hSw; (try simp only [Two, ZX] at hSw); go_simp; try with_reducible rfl)
              try simp only [Act.put, sa7, sb7, sc7]
              refine wtk7 (i := 3) (v := ?v104) (ga7 rfl) (by kernel_rfl) (fun _ _ _ h => h) ⟨by rfl, ?hy104⟩ (by assumption) ?rest104
              case hy104 => (intro wq hSw; (try simp only [Two, ZX] at hSw); go_simp; try with_reducible rfl)
              try simp only [Act.put, sa7, sb7, sc7]
              refine wtk7 (i := 4) (v := ?v105) (ga7 rfl) (by kernel_rfl) (fun _ _ _ h => h) ⟨by rfl, ?hy105⟩ (by assumption) ?rest105
              case hy105 => (intro wq hSw; (try simp only [Two, ZX] at hSw); go_simp; try with_reducible rfl)
              try simp only [Act.put, sa7, sb7, sc7]
              refine wpAnyH_ready (rs := [5]) (by kernel_rfl) (by simp) ?rdy106
              refine AllReadyH.cons (ga7 rfl) (fun K hK => ?stp106) AllReadyH.nil
              go_simp
              go_wp2_with fail
              (refine (O1.out _).mono ?_; rintro e w7 ⟨rfl, hb4⟩)
              go_wp2_with fail
              refine hK.out _ _ ?hSn106 (fun hHeld2 => ?rest106)
              case hSn106 => (first | with_reducible exact Z0.drew | with_reducible exact hHeld.below hb4 (fun z => z.below hb4))
              clear hK K hHeld
              have hHeld := hHeld2
              clear hHeld2
              try simp only [Act.put, sa7, sb7, sc7]
              refine wtk7 (i := 6) (v := ?v107) (ga7 rfl) (by kernel_rfl) (fun _ _ _ h => h) ⟨by rfl, ?hy107⟩ (by assumption) ?rest107
              case hy107 => (intro wq hSw; (try simp only [Two, ZX] at hSw); go_simp; try with_reducible rfl)
              try simp only [Act.put, sa7, sb7, sc7]
              refine wpAnyH_done (by kernel_rfl) ?fin100 _
              have Z2 := hide hHeld.2.out
              obtain ⟨d0, d1, d2, d3, _, _, _, _⟩ := hHeld.1
              obtain ⟨qa, cap0, hu17⟩ : ∃ qa cap0, u17 = .slice qa ws.length cap0 := by
                rcases Z2.out.row.2 with ⟨h1, h2⟩ | ⟨gB, cap, cur, h1, _⟩
                · exact ⟨none, 0, by rw [h1, h2]⟩
                · exact ⟨some ⟨gB, 0, none⟩, cap, h1⟩
              subst hu17
              have hs9 : base ≤ w7.heap.size := Z2.out.bs
              have N4 := four_new7 w7 (.bool v) (.int .u64 rh) (.int .u64 rl) (.int .i64 k) 28
              have hone : ∀ u ∈ [Value.bool v, .int .u64 rh, .int .u64 rl, .int .i64 k], u.oneCell' = true := by
                intro u hu
                simp at hu
                rcases hu with rfl | rfl | rfl | rfl <;> rfl
              clear hHeld Z0 O1 hb4
              go_wp2_with (first | (at_builtin; refine wpList_append_own _ rfl _ _ 72 rfl base 28 i0 (.agg #[.bool false, .int .u64 0, .int .u64 0, .int .i64 0]) 4 32 Tryz.underlying72 hinf hz0 hz1 hz2 rfl (by decide) _ _ _ rfl (Z2.out.row.alloc _) ⟨w7.heap.size, 0, none⟩ 1 1 [.bool v, .int .u64 rh, .int .u64 rl, .int .i64 k] rfl rfl N4 hone ?c3 ?c4 ?c5 ?_))
              case c3 => unfold maxLen; omega
              case c4 => omega
              case c5 => first | omega | (simp; omega)
              intro v' w10 hown hgrow _
              rw [← HA.out, ← HB.out] at hown
              have S10 := hide (Z2.out.grown hown hgrow)
              clear Z2 hown hgrow N4 hone d0 d1 d2 d3
              go_wp2
              go_roundw
              case rel => exact ⟨i + 1, ws ++ [gs[i]], by omega, by simp; omega, by go_num, HW2, S10⟩
              case measure => simp [intOf]; omega
            · rw [hoi] at O1
              have HW2 : Hid (ws = (gs.take (i + 1)).filter (fun p => !o p)) := by
                show _ = _
                rw [HT.out, ← HW.out, hoi]
                simp
              clear hrh hrl HT HW hoi c0 c1 c2 c3 kq S r1
              go_wp2_with fail
              refine wp_region_held_drew (S := (ZX B (i * 4) v rh rl k (w.heap.size + 1) uu qh0 ql0 cq0 (BSt w base bw [(w.heap.size + 1, [.bool uu, .int .u64 qh0, .int .u64 ql0, .int .i64 cq0], 28), (w.heap.size, [.bool v, .int .u64 h, .int .u64 l, .int .i64 b], 28)] v h l b k x a g r gl cp gu n N f3 c f c (.slice (some ⟨B, 0, none⟩) gs.length cq) gs u17 ws))) (by kernel_rfl) ?hS200 (fun hHeld => ?rest200)
              case hS200 => (first | with_reducible exact Z0.drew | with_reducible exact hHeld.below hb4 (fun z => z.below hb4))
              refine wtk7 (i := 0) (v := ?v201) (ga7 rfl) (by kernel_rfl) (fun _ _ _ h => h) ⟨by rfl, ?hy201⟩ (by assumption) ?rest201
              case hy201 => (intro wq hSw; (try simp only [Two, ZX] at hSw); go_simp; try with_reducible rfl)
              try simp only [Act.put, sa7, sb7, sc7]
              refine wtk7 (i := 1) (v := ?v202) (ga7 rfl) (by kernel_rfl) (fun _ _ _ h => h) ⟨by rfl, ?hy202⟩ (by assumption) ?rest202
              case hy202 => (intro wq hSw; (try simp only [Two, ZX] at hSw); go_simp; try with_reducible rfl)
              try simp only [Act.put, sa7, sb7, sc7]
              refine wtk7 (i := 2) (v := ?v203) (ga7 rfl) (by kernel_rfl) (fun _ _ _ h => h) ⟨by rfl, ?hy203⟩ (by assumption) ?rest203
              case hy203 => (intro wq hSw; (try simp only [Two, ZX] at hSw); go_simp; try with_reducible rfl)
              try simp only [Act.put, sa7, sb7, sc7]
              refine wtk7 (i := 3) (v := ?v204) (ga7 rfl) (by kernel_rfl) (fun _ _ _ h => h) ⟨by rfl, ?hy204⟩ (by assumption) ?rest204
              case hy204 => (intro wq hSw; (try simp only [Two, ZX] at hSw); go_simp; try with_reducible rfl)
              try simp only [Act.put, sa7, sb7, sc7]
              refine wtk7 (i := 4) (v := ?v205) (ga7 rfl) (by kernel_rfl) (fun _ _ _ h => h) ⟨by rfl, ?hy205⟩ (by assumption) ?rest205
              case hy205 => (intro wq hSw; (try simp only [Two, ZX] at hSw); go_simp; try with_reducible rfl)
              try simp only [Act.put, sa7, sb7, sc7]
              refine wpAnyH_ready (rs := [5]) (by kernel_rfl) (by simp) ?rdy206
              refine AllReadyH.cons (ga7 rfl) (fun K hK => ?stp206) AllReadyH.nil
              go_simp
              go_wp2_with fail
              (refine (O1.out _).mono ?_; rintro e w7 ⟨rfl, hb4⟩)
              go_wp2_with fail
              refine hK.out _ _ ?hSn206 (fun hHeld2 => ?rest206)
              case hSn206 => (first | with_reducible exact Z0.drew | with_reducible exact hHeld.below hb4 (fun z => z.below hb4))
              clear hK K hHeld
              have hHeld := hHeld2
              clear hHeld2
              try simp only [Act.put, sa7, sb7, sc7]
              refine wtk7 (i := 6) (v := ?v207) (ga7 rfl) (by kernel_rfl) (fun _ _ _ h => h) ⟨by rfl, ?hy207⟩ (by assumption) ?rest207
              case hy207 => (intro wq hSw; (try simp only [Two, ZX] at hSw); go_simp; try with_reducible rfl)
              try simp only [Act.put, sa7, sb7, sc7]
              refine wpAnyH_done (by kernel_rfl) ?fin200 _
              have Z2 := hide hHeld.2.out
              clear hHeld Z0 O1 hb4
              go_wp2
              go_roundw
              case rel => exact ⟨i + 1, ws, by omega, by omega, by go_num, HW2, Z2⟩
              case measure => simp [intOf]; omega
          · have hlt' : ¬ (i : Int) < (gs.length : Nat) := by omega
            have hie : i = gs.length := by omega
            have WE : Hid (usedL f3 N = ws) := by
              show _ = _
              rw [SB3.out, HW.out, hie, List.take_length]
            have UU := hide (U2.out _ _ S.out.st.p)
            have wl : ws.length ≤ 256 := by omega
            clear U2 SB3 HW OV FO hie gm
            go_wp2_with fail
            refine UU.out.mono ?_
            rintro e w7 ⟨sv, rfl, ho7, hb7⟩
            rw [WE.out] at ho7
            have S7 := hide (S.out.below hb7)
            have SA := hide (same7_c (by omega) w7 ho7 S7.out.row)
            clear UU hb7 S ho7
            go_wp2_with fail
            refine SA.out.mono ?_
            rintro e w8 ⟨rfl, hb8⟩
            have B8 := hide (S7.out.st.kn.below hb8).bel
            clear SA hb8 S7
            go_wp2
            go_ret
            exact ⟨by first | rfl | simp, B8.out⟩
      · clear hlt
        go_wp2_with fail
        refine U1.out.mono ?_
        rintro e w4 ⟨uw, rfl, hw, hb⟩
        have S4 := hide (S.out.below hb)
        obtain ⟨bw, hbw⟩ : ∃ bw, wr.heap.size = bw := ⟨_, rfl⟩
        rw [hbw] at hw
        have OW := hide hw
        clear hbw
        have F4 := S4.out.kn.1
        simp only [Facts, CellsAt] at F4
        have OC2 := hide (OC1.out _ _ S4.out.p)
        clear U1 hb hw S F OC1 hi hi60
        go_wp2_with fail
        refine OC2.out.mono ?_
        rintro e w5 ⟨rfl, hP5, hK5⟩
        have S5 := hide (S4.out.turnP hP5 (hK5.mono (Nat.le_refl _) (M := [g, x]) (fun y hy _ => by simp at hy ⊢; exact Or.inl hy)))
        have W5 := hide (own_bute OW.out (map_ne S4.out.p.m OW.out) hK5)
        have F5 := S5.out.kn.1
        simp only [Facts, CellsAt] at F5
        have RL2 := hide (RL1.out _ _ S5.out.p)
        clear OC2 hP5 hK5 S4 OW F4 RL1
        go_wp2_with fail
        refine RL2.out.mono ?_
        rintro e w6 ⟨rfl, hP6, hK6⟩
        have S6 := hide (S5.out.turnP hP6 (hK6.mono (Nat.le_refl _) (M := [g, x]) (fun y hy _ => by simp at hy ⊢; exact Or.inl hy)))
        have W6 := hide (own_bute W5.out (map_ne S5.out.p.m W5.out) hK6)
        obtain ⟨f3, hf3⟩ : ∃ f3, setO v n k N uu m0 cq0 false (setO v n k N uu m0 cq0 true f) = f3 := ⟨_, rfl⟩
        have SB3 : Hid (usedL f3 N = (usedL f N).filter (fun p => !o p)) := usedL_filter (fun p => by rw [← hf3]; exact SB.out f p) N
        rw [hf3] at S6
        have bl : Below w6.heap.size w6 (w6.alloc (.cells #[] 28)) := by repeat (first | with_reducible exact Below.refl _ _ | with_reducible refine Below.drew ?_ | with_reducible refine Below.alloc ?_ (by first | omega | (simp <;> omega)) _ | with_reducible refine Below.setCell ?_ (by first | omega | (simp <;> omega)) _)
        have gm : Hid (∀ p, p ∈ usedL f N → p < N) := fun p hp => (usedL_mem hp).1
        obtain ⟨gs, hgs⟩ : ∃ gs, usedL f N = gs := ⟨_, rfl⟩
        have gl2 : gs.length ≤ 256 := by rw [← hgs, usedL_len]; have := cnt_le f N; omega
        rw [hgs] at W6 SB3 gm
        have B0 : Hid (BSt w w6.heap.size bw [(w.heap.size + 1, [.bool uu, .int .u64 qh0, .int .u64 ql0, .int .i64 cq0], 28), (w.heap.size, [.bool v, .int .u64 h, .int .u64 l, .int .i64 b], 28)] v h l b k x a g r gl cp gu n N f3 c f c uw gs (.slice (some ⟨w6.heap.size, 0, none⟩) 0 0) [] (w6.alloc (.cells #[] 28))) := by
          have p := S6.out.p.lt
          have q := S6.out.rr.lt
          exact ⟨S6.out.below bl, own_below W6.out bl, World.ownsRow_made _ _ _ (Nat.le_refl _) (Nat.zero_le _) rfl, ⟨p.1, p.2.1, p.2.2, q.1, q.2.1, q.2.2, S6.out.kn.bel.size⟩, lts_mem S6.out.kn.lts, fun g' h' => (W6.out.lt g' h').2, bl.size⟩
        obtain ⟨xq, cq, huw, _⟩ := row_at8 W6.out
        subst huw
        clear RL2 hP6 hK6 S5 W5 F5 S6 W6 hf3 bl hgs SB
        go_wp2_with fail
        obtain ⟨base, hbase⟩ : ∃ base, w6.heap.size = base := ⟨_, rfl⟩
        rw [hbase] at B0 ⊢
        clear hbase
        go_loopw [17, 18] (fun uv iv wr2 => ∃ (i : Nat) (ws : List Nat), i ≤ gs.length ∧ ws.length ≤ i ∧ iv = .int .i64 i ∧ Hid (ws = (gs.take i).filter (fun p => !o p)) ∧ Hid (BSt w base bw [(w.heap.size + 1, [.bool uu, .int .u64 qh0, .int .u64 ql0, .int .i64 cq0], 28), (w.heap.size, [.bool v, .int .u64 h, .int .u64 l, .int .i64 b], 28)] v h l b k x a g r gl cp gu n N f3 c f c (.slice xq gs.length cq) gs uv ws wr2)) (fun _ iv _ => gs.length - (intOf iv).toNat)
        case atStart => exact ⟨0, [], by omega, by simp, rfl, rfl, B0⟩
        case round =>
          clear B0
          obtain ⟨i, ws, hi, hwl, rfl, HW, S⟩ := hrel
          by_cases hlt : i < gs.length
          · have hlt' : (i : Int) < (gs.length : Nat) := by omega
            obtain ⟨x1, c1, e1, r1⟩ := row_at8 S.out.was
            injection e1 with e1 e2 e3
            subst e1 e3
            clear e2
            obtain ⟨B, rfl, c0, c1, c2, c3⟩ := r1 i hlt
            obtain ⟨rh, hrh⟩ : ∃ rh : Int, ((blkN v n k gs[i] / 18446744073709551616 : Nat) : Int) = rh := ⟨_, rfl⟩
            obtain ⟨rl, hrl⟩ : ∃ rl : Int, ((blkN v n k gs[i] % 18446744073709551616 : Nat) : Int) = rl := ⟨_, rfl⟩
            have gN := gm.out gs[i] (List.getElem_mem hlt)
            have O1 := hide (OV.out gs[i] gN rh rl hrh hrl)
            rw [FO.out _ gN] at O1
            have HT := hide (filter_take (q := fun p => !o p) hlt)
            rw [hrh] at c1
            rw [hrl] at c2
            have HA := hide hrh
            have HB := hide hrl
            have kq := S.out.st.kn.2.1.1
            have Z0 : ZX B (i * 4) v rh rl k (w.heap.size + 1) uu qh0 ql0 cq0 (BSt w base bw [(w.heap.size + 1, [.bool uu, .int .u64 qh0, .int .u64 ql0, .int .i64 cq0], 28), (w.heap.size, [.bool v, .int .u64 h, .int .u64 l, .int .i64 b], 28)] v h l b k x a g r gl cp gu n N f3 c f c (.slice (some ⟨B, 0, none⟩) gs.length cq) gs u17 ws) wr := ⟨⟨c0, c1, c2, c3, kq.cell 0, kq.cell 1, kq.cell 2, kq.cell 3⟩, S.out⟩
            cases hoi : o gs[i]
            · rw [hoi] at O1
              have HW2 : Hid (ws ++ [gs[i]] = (gs.take (i + 1)).filter (fun p => !o p)) := by
                show _ = _
                rw [HT.out, ← HW.out, hoi]
                rfl
              clear hrh hrl HT HW hoi c0 c1 c2 c3 kq S r1
              go_wp2_with fail
              refine wp_region_held_drew (S := (ZX B (i * 4) v rh rl k (w.heap.size + 1) uu qh0 ql0 cq0 (BSt w base bw [(w.heap.size + 1, [.bool uu, .int .u64 qh0, .int .u64 ql0, .int .i64 cq0], 28), (w.heap.size, [.bool v, .int .u64 h, .int .u64 l, .int .i64 b], 28)] v h l b k x a g r gl cp gu n N f3 c f c (.slice (some ⟨B, 0, none⟩) gs.length cq) gs u17 ws))) (by kernel_rfl) ?hS300 (fun hHeld => ?rest300)
              case hS300 => (first | with_reducible exact Z0.drew | with_reducible exact hHeld.below hb4 (fun z => z.below hb4))
              refine wtk7 (i := 0) (v := ?v301) (ga7 rfl) (by kernel_rfl) (fun _ _ _ h => h) ⟨by rfl, ?hy301⟩ (by assumption) ?rest301
              case hy301 => (intro wq hSw; (try simp only [Two, ZX] at hSw); go_simp; try with_reducible rfl)
              try simp only [Act.put, sa7, sb7, sc7]
              refine wtk7 (i := 1) (v := ?v302) (ga7 rfl) (by kernel_rfl) (fun _ _ _ h => h) ⟨by rfl, ?hy302⟩ (by assumption) ?rest302
              case hy302 => (intro wq hSw; (try simp only [Two, ZX] at hSw); go_simp; try with_reducible rfl)
              try simp only [Act.put, sa7, sb7, sc7]
              refine wtk7 (i := 2) (v := ?v303) (ga7 rfl) (by kernel_rfl) (fun _ _ _ h => h) ⟨by rfl, ?hy303⟩ (by assumption) ?rest303
              case hy303 => (intro wq hSw; (try simp only [Two, ZX] at hSw); go_simp; try with_reducible rfl)
              try simp only [Act.put, sa7, sb7, sc7]
              refine wtk7 (i := 3) (v := ?v304) (ga7 rfl) (by kernel_rfl) (fun _ _ _ h => h) ⟨by rfl, ?hy304⟩ (by assumption) ?rest304
              case hy304 => (intro wq hSw; (try simp only [Two, ZX] at hSw); go_simp; try with_reducible rfl)
              try simp only [Act.put, sa7, sb7, sc7]
              refine wtk7 (i := 4) (v := ?v305) (ga7 rfl) (by kernel_rfl) (fun _ _ _ h => h) ⟨by rfl, ?hy305⟩ (by assumption) ?rest305
              case hy305 => (intro wq hSw; (try simp only [Two, ZX] at hSw); go_simp; try with_reducible rfl)
              try simp only [Act.put, sa7, sb7, sc7]
              refine wpAnyH_ready (rs := [5]) (by kernel_rfl) (by simp) ?rdy306
              refine AllReadyH.cons (ga7 rfl) (fun K hK => ?stp306) AllReadyH.nil
              go_simp
              go_wp2_with fail
              (refine (O1.out _).mono ?_; rintro e w7 ⟨rfl, hb4⟩)
              go_wp2_with fail
              refine hK.out _ _ ?hSn306 (fun hHeld2 => ?rest306)
              case hSn306 => (first | with_reducible exact Z0.drew | with_reducible exact hHeld.below hb4 (fun z => z.below hb4))
              clear hK K hHeld
              have hHeld := hHeld2
              clear hHeld2
              try simp only [Act.put, sa7, sb7, sc7]
              refine wtk7 (i := 6) (v := ?v307) (ga7 rfl) (by kernel_rfl) (fun _ _ _ h => h) ⟨by rfl, ?hy307⟩ (by assumption) ?rest307
              case hy307 => (intro wq hSw; (try simp only [Two, ZX] at hSw); go_simp; try with_reducible rfl)
              try simp only [Act.put, sa7, sb7, sc7]
              refine wpAnyH_done (by kernel_rfl) ?fin300 _
              have Z2 := hide hHeld.2.out
              obtain ⟨d0, d1, d2, d3, _, _, _, _⟩ := hHeld.1
              obtain ⟨qa, cap0, hu17⟩ : ∃ qa cap0, u17 = .slice qa ws.length cap0 := by
                rcases Z2.out.row.2 with ⟨h1, h2⟩ | ⟨gB, cap, cur, h1, _⟩
                · exact ⟨none, 0, by rw [h1, h2]⟩
                · exact ⟨some ⟨gB, 0, none⟩, cap, h1⟩
              subst hu17
              have hs9 : base ≤ w7.heap.size := Z2.out.bs
              have N4 := four_new7 w7 (.bool v) (.int .u64 rh) (.int .u64 rl) (.int .i64 k) 28
              have hone : ∀ u ∈ [Value.bool v, .int .u64 rh, .int .u64 rl, .int .i64 k], u.oneCell' = true := by
                intro u hu
                simp at hu
                rcases hu with rfl | rfl | rfl | rfl <;> rfl
              clear hHeld Z0 O1 hb4
              go_wp2_with (first | (at_builtin; refine wpList_append_own _ rfl _ _ 72 rfl base 28 i0 (.agg #[.bool false, .int .u64 0, .int .u64 0, .int .i64 0]) 4 32 Tryz.underlying72 hinf hz0 hz1 hz2 rfl (by decide) _ _ _ rfl (Z2.out.row.alloc _) ⟨w7.heap.size, 0, none⟩ 1 1 [.bool v, .int .u64 rh, .int .u64 rl, .int .i64 k] rfl rfl N4 hone ?c3 ?c4 ?c5 ?_))
              case c3 => unfold maxLen; omega
              case c4 => omega
              case c5 => first | omega | (simp; omega)
              intro v' w10 hown hgrow _
              rw [← HA.out, ← HB.out] at hown
              have S10 := hide (Z2.out.grown hown hgrow)
              clear Z2 hown hgrow N4 hone d0 d1 d2 d3
              go_wp2
              go_roundw
              case rel => exact ⟨i + 1, ws ++ [gs[i]], by omega, by simp; omega, by go_num, HW2, S10⟩
              case measure => simp [intOf]; omega
            · rw [hoi] at O1
              have HW2 : Hid (ws = (gs.take (i + 1)).filter (fun p => !o p)) := by
                show _ = _
                rw [HT.out, ← HW.out, hoi]
                simp
              clear hrh hrl HT HW hoi c0 c1 c2 c3 kq S r1
              go_wp2_with fail
              refine wp_region_held_drew (S := (ZX B (i * 4) v rh rl k (w.heap.size + 1) uu qh0 ql0 cq0 (BSt w base bw [(w.heap.size + 1, [.bool uu, .int .u64 qh0, .int .u64 ql0, .int .i64 cq0], 28), (w.heap.size, [.bool v, .int .u64 h, .int .u64 l, .int .i64 b], 28)] v h l b k x a g r gl cp gu n N f3 c f c (.slice (some ⟨B, 0, none⟩) gs.length cq) gs u17 ws))) (by kernel_rfl) ?hS400 (fun hHeld => ?rest400)
              case hS400 => (first | with_reducible exact Z0.drew | with_reducible exact hHeld.below hb4 (fun z => z.below hb4))
              refine wtk7 (i := 0) (v := ?v401) (ga7 rfl) (by kernel_rfl) (fun _ _ _ h => h) ⟨by rfl, ?hy401⟩ (by assumption) ?rest401
              case hy401 => (intro wq hSw; (try simp only [Two, ZX] at hSw); go_simp; try with_reducible rfl)
              try simp only [Act.put, sa7, sb7, sc7]
              refine wtk7 (i := 1) (v := ?v402) (ga7 rfl) (by kernel_rfl) (fun _ _ _ h => h) ⟨by rfl, ?hy402⟩ (by assumption) ?rest402
              case hy402 => (intro wq hSw; (try simp only [Two, ZX] at hSw); go_simp; try with_reducible rfl)
              try simp only [Act.put, sa7, sb7, sc7]
              refine wtk7 (i := 2) (v := ?v403) (ga7 rfl) (by kernel_rfl) (fun _ _ _ h => h) ⟨by rfl, ?hy403⟩ (by assumption) ?rest403
              case hy403 => (intro wq hSw; (try simp only [Two, ZX] at hSw); go_simp; try with_reducible rfl)
              try simp only [Act.put, sa7, sb7, sc7]
              refine wtk7 (i := 3) (v := ?v404) (ga7 rfl) (by kernel_rfl) (fun _ _ _ h => h) ⟨by rfl, ?hy404⟩ (by assumption) ?rest404
              case hy404 => (intro wq hSw; (try simp only [Two, ZX] at hSw); go_simp; try with_reducible rfl)
              try simp only [Act.put, sa7, sb7, sc7]
              refine wtk7 (i := 4) (v := ?v405) (ga7 rfl) (by kernel_rfl) (fun _ _ _ h => h) ⟨by rfl, ?hy405⟩ (by assumption) ?rest405
              case hy405 => (intro wq hSw; (try simp only [Two, ZX] at hSw); go_simp; try with_reducible rfl)
              try simp only [Act.put, sa7, sb7, sc7]
              refine wpAnyH_ready (rs := [5]) (by kernel_rfl) (by simp) ?rdy406
              refine AllReadyH.cons (ga7 rfl) (fun K hK => ?stp406) AllReadyH.nil
              go_simp
              go_wp2_with fail
              (refine (O1.out _).mono ?_; rintro e w7 ⟨rfl, hb4⟩)
              go_wp2_with fail
              refine hK.out _ _ ?hSn406 (fun hHeld2 => ?rest406)
              case hSn406 => (first | with_reducible exact Z0.drew | with_reducible exact hHeld.below hb4 (fun z => z.below hb4))
              clear hK K hHeld
              have hHeld := hHeld2
              clear hHeld2
              try simp only [Act.put, sa7, sb7, sc7]
              refine wtk7 (i := 6) (v := ?v407) (ga7 rfl) (by kernel_rfl) (fun _ _ _ h => h) ⟨by rfl, ?hy407⟩ (by assumption) ?rest407
              case hy407 => (intro wq hSw; (try simp only [Two, ZX] at hSw); go_simp; try with_reducible rfl)
              try simp only [Act.put, sa7, sb7, sc7]
              refine wpAnyH_done (by kernel_rfl) ?fin400 _
              have Z2 := hide hHeld.2.out
              clear hHeld Z0 O1 hb4
              go_wp2
              go_roundw
              case rel => exact ⟨i + 1, ws, by omega, by omega, by go_num, HW2, Z2⟩
              case measure => simp [intOf]; omega
          · have hlt' : ¬ (i : Int) < (gs.length : Nat) := by omega
            have hie : i = gs.length := by omega
            have WE : Hid (usedL f3 N = ws) := by
              show _ = _
              rw [SB3.out, HW.out, hie, List.take_length]
            have UU := hide (U2.out _ _ S.out.st.p)
            have wl : ws.length ≤ 256 := by omega
            clear U2 SB3 HW OV FO hie gm
            go_wp2_with fail
            refine UU.out.mono ?_
            rintro e w7 ⟨sv, rfl, ho7, hb7⟩
            rw [WE.out] at ho7
            have S7 := hide (S.out.below hb7)
            have SA := hide (same7_c (by omega) w7 ho7 S7.out.row)
            clear UU hb7 S ho7
            go_wp2_with fail
            refine SA.out.mono ?_
            rintro e w8 ⟨rfl, hb8⟩
            have B8 := hide (S7.out.st.kn.below hb8).bel
            clear SA hb8 S7
            go_wp2
            go_ret
            exact ⟨by first | rfl | simp, B8.out⟩

theorem bback_walk {v uu : Bool} {h l b k qh0 ql0 cq0 : Int} {n m0 len cap bo oo : Nat} {xo : Option Addr} (hp : IsNum h l n) (hq0 : IsNum qh0 ql0 m0) (w : World) (hA : BActsAt w xo len bo oo) (hL : LW w) (hT : TB w) :
    Calls Tryz.prog 7 #[pv v h l b, .int .i64 k, .slice xo len cap, pv uu qh0 ql0 cq0] w fun e w' => e = .returned (.bool true) ∧ Below w.heap.size w w' := by
  cases hs : smB v n b k
  · exact bback_out hp hs w hL hT
  · obtain ⟨O, hN⟩ := smB_of hp hs
    exact bback_main O hN hs hq0 w hA hL hT
end Go.Proofs.YtllidkflgjjkfaaGreatDoor
