/-
  Texts Se6b, SeT2, SeT3 of the proof.
-/
import Derived.Test.YtllidkflgjjkfaaGreatDoorC44
import Derived.Test.YtllidkflgjjkfaaGreatDoorC39
import Derived.Test.YtllidkflgjjkfaaGreatDoorC43

namespace Go.Proofs.YtllidkflgjjkfaaGreatDoor
open Go.ChangeShapes Go.WideShapes Go.ChangeAt Go.RowKit
set_option linter.unusedVariables false
set_option linter.unusedSimpArgs false

set_option maxRecDepth 100000 in
set_option maxHeartbeats 1600000 in
theorem scopy_c {v : Bool} {h l b k : Int} {x a g N cu : Nat} {f : Nat → Bool} (w : World) (P0 : SetAt w v h l b k x a g N f cu) :
    Calls Tryz.prog 50 #[.pointer (some ⟨x, 0, none⟩)] w fun e w' => ∃ x' a' g', e = .returned (.pointer (some ⟨x', 0, none⟩)) ∧ SetAt w' v h l b k x' a' g' N f cu ∧ Below w.heap.size w w' ∧ w.heap.size ≤ x' ∧ w.heap.size ≤ g' ∧ w.heap.size ≤ a' := by
  have PH := hide P0
  obtain ⟨x0, x1, x2, x3, x4, x5, x6, xl⟩ := P0.hd.seven
  have CC := hide (fun w' H => copy_ok a g N f w' H)
  have BL : Below w.heap.size w (w.alloc (.cells #[.bool v, .int .u64 h, .int .u64 l, .int .i64 b, .int .i64 k, .pointer (some ⟨a, 0, none⟩), .int .i64 (cu : Int)] 115)) := by repeat (first | with_reducible exact Below.refl _ _ | with_reducible refine Below.drew ?_ | with_reducible refine Below.alloc ?_ (by first | omega | (simp <;> omega)) _ | with_reducible refine Below.setCell ?_ (by first | omega | (simp <;> omega)) _)
  have BH := hide (Blk.new w #[.bool v, .int .u64 h, .int .u64 l, .int .i64 b, .int .i64 k, .pointer (some ⟨a, 0, none⟩), .int .i64 (cu : Int)] 115)
  have M1 := hide (PH.out.m.below BL)
  have BLH := hide BL
  have cur := hide P0.cur
  clear P0 BL
  go_enter Tryz.func50, Tryz.ntmps50
  go_wp2_with fail
  refine (CC.out _ M1.out).mono ?_
  rintro e w5 ⟨rfl, hM, hb5, hs5⟩
  have MH := hide hM
  have B5 := hide (BLH.out.trans (hb5.mono BLH.out.size))
  have N5 := hide (BH.out.below hb5)
  obtain ⟨r0, r1, r2, r3, r4, r5, r6, rl⟩ := N5.out.seven
  have r9 := N5.out.frozen 5
  clear CC hM hb5 hs5 M1 BH BLH x0 x1 x2 x3 x4 x5 x6 PH
  go_wp2
  go_ret
  have SF : SetAt (w5.setCell ⟨w.heap.size, 5, none⟩ (.pointer (some ⟨w.heap.size + 1 + 1, 0, none⟩))) v h l b k w.heap.size (w.heap.size + 1 + 1) (w.heap.size + 1) N f cu := by
    have M5 : MapB w5 (w.heap.size + 1 + 1) (w.heap.size + 1) N f := by simpa using MH.out
    have N6 := N5.out.put 5 (.pointer (some ⟨w.heap.size + 1 + 1, 0, none⟩))
    exact ⟨by simpa using N6, M5.setFar (by omega) (by omega) 5 _, cur.out⟩
  refine ⟨w.heap.size, w.heap.size + 1 + 1, w.heap.size + 1, rfl, by first | exact SF | simpa using SF, ?_, Nat.le_refl _, by omega, by omega⟩
  have B := B5.out
  exact by repeat (first | with_reducible exact Below.refl _ _ | with_reducible refine Below.drew ?_ | with_reducible refine Below.alloc ?_ (by first | omega | (simp <;> omega)) _ | with_reducible refine Below.setCell ?_ (by first | omega | (simp <;> omega)) _ | with_reducible refine Below.trans ?_ (Below.mono B (by first | omega | (simp <;> omega))))
end Go.Proofs.YtllidkflgjjkfaaGreatDoor

namespace Go.Proofs.YtllidkflgjjkfaaGreatDoor
open Go.ChangeShapes Go.WideShapes Go.ChangeAt Go.RowKit
set_option linter.unusedVariables false
set_option linter.unusedSimpArgs false

theorem SetAt.but {L : List Nat} {W W' : World} {v : Bool} {h l b k : Int} {x a g N c : Nat} {f : Nat → Bool} (P : SetAt W v h l b k x a g N f c) (q : But L W.heap.size W W') (hx : x ∉ L) (ha : a ∉ L) (hg : g ∉ L) : SetAt W' v h l b k x a g N f c :=
  ⟨q.blk P.hd P.hd.lt hx, P.m.but q P.m.lt.1 P.m.lt.2.1 ha hg, P.cur⟩

/-- What both are in memory is apart. -/
theorem both_ne {W : World} {v : Bool} {h l b k : Int} {x a g r gl cap gu n N c c2 : Nat} {f f2 : Nat → Bool} (P : SetAt W v h l b k x a g N f c) (R : RAt W v h l b k r gl cap gu n N f2 c2) : (r ∉ [g, x] ∧ gl ∉ [g, x] ∧ gu ∉ [g, x]) ∧ (x ∉ [gu, r] ∧ a ∉ [gu, r] ∧ g ∉ [gu, r]) := by
  obtain ⟨cur, h1, _⟩ := R.row
  have a1 := P.m.neOf R.hd (by decide) (by decide)
  have a2 := P.m.neOf h1 (by decide) (by decide)
  have a3 := P.m.neOf R.used (by decide) (by decide)
  have b1 := P.hd.ne R.hd (by decide)
  have b2 := P.hd.ne h1 (by decide)
  have b3 := P.hd.ne R.used (by decide)
  simp only [List.mem_cons, List.not_mem_nil, or_false, not_or]
  exact ⟨⟨⟨a1.2.symm, b1.symm⟩, ⟨a2.2.symm, b2.symm⟩, ⟨a3.2.symm, b3.symm⟩⟩, ⟨b3, b1⟩, ⟨a3.1, a1.1⟩, ⟨a3.2, a1.2⟩⟩

/-- Both, beside known blocks. -/
structure PSt (w : World) (L : List (Nat × List Value × TypeId)) (v : Bool) (h l b k : Int) (x a g r gl cap gu n N : Nat) (f : Nat → Bool) (c : Nat) (f2 : Nat → Bool) (c2 : Nat) (W : World) : Prop where
  kn : Kn w L W
  p : SetAt W v h l b k x a g N f c
  rr : RAt W v h l b k r gl cap gu n N f2 c2
  og : Off g L
  ox : Off x L
  ou : Off gu L
  orr : Off r L
  fr : w.heap.size ≤ g ∧ w.heap.size ≤ x ∧ w.heap.size ≤ gu ∧ w.heap.size ≤ r

theorem PSt.below {w W W' : World} {L : List (Nat × List Value × TypeId)} {v : Bool} {h l b k : Int} {x a g r gl cap gu n N c c2 : Nat} {f f2 : Nat → Bool} (S : PSt w L v h l b k x a g r gl cap gu n N f c f2 c2 W) (q : Below W.heap.size W W') : PSt w L v h l b k x a g r gl cap gu n N f c f2 c2 W' :=
  ⟨S.kn.below q, S.p.below q, S.rr.below q, S.og, S.ox, S.ou, S.orr, S.fr⟩

theorem PSt.turnP {w W W' : World} {L : List (Nat × List Value × TypeId)} {v : Bool} {h l b k : Int} {x a g r gl cap gu n N c c2 c' : Nat} {f f2 f' : Nat → Bool} (S : PSt w L v h l b k x a g r gl cap gu n N f c f2 c2 W) (P' : SetAt W' v h l b k x a g N f' c') (q : But [g, x] W.heap.size W W') : PSt w L v h l b k x a g r gl cap gu n N f' c' f2 c2 W' :=
  have n := (both_ne S.p S.rr).1
  ⟨Kn.of (Blks.but2 q S.og S.ox S.kn.2.1) (but_to2 q S.kn.bel S.fr.1 S.fr.2.1), P', S.rr.but q n.1 n.2.1 n.2.2, S.og, S.ox, S.ou, S.orr, S.fr⟩

theorem PSt.turnR {w W W' : World} {L : List (Nat × List Value × TypeId)} {v : Bool} {h l b k : Int} {x a g r gl cap gu n N c c2 c' : Nat} {f f2 f' : Nat → Bool} (S : PSt w L v h l b k x a g r gl cap gu n N f c f2 c2 W) (R' : RAt W' v h l b k r gl cap gu n N f' c') (q : But [gu, r] W.heap.size W W') : PSt w L v h l b k x a g r gl cap gu n N f c f' c' W' :=
  have m := (both_ne S.p S.rr).2
  ⟨Kn.of (Blks.but2 q S.ou S.orr S.kn.2.1) (but_to2 q S.kn.bel S.fr.2.2.1 S.fr.2.2.2), S.p.but q m.1 m.2.1 m.2.2, R', S.og, S.ox, S.ou, S.orr, S.fr⟩

theorem PSt.push {w W : World} {L : List (Nat × List Value × TypeId)} {v : Bool} {h l b k : Int} {x a g r gl cap gu n N c c2 : Nat} {f f2 : Nat → Bool} (S : PSt w L v h l b k x a g r gl cap gu n N f c f2 c2 W) (cs : List Value) (t : TypeId) : PSt w ((W.heap.size, cs, t) :: L) v h l b k x a g r gl cap gu n N f c f2 c2 (W.alloc (.cells cs.toArray t)) :=
  have bl : Below W.heap.size W (W.alloc (.cells cs.toArray t)) := by repeat (first | with_reducible exact Below.refl _ _ | with_reducible refine Below.drew ?_ | with_reducible refine Below.alloc ?_ (by first | omega | (simp <;> omega)) _ | with_reducible refine Below.setCell ?_ (by first | omega | (simp <;> omega)) _)
  have p := S.p.lt
  have r := S.rr.lt
  ⟨S.kn.push rfl, S.p.below bl, S.rr.below bl, ⟨by show W.heap.size ≠ g; omega, S.og⟩, ⟨by show W.heap.size ≠ x; omega, S.ox⟩, ⟨by show W.heap.size ≠ gu; omega, S.ou⟩, ⟨by show W.heap.size ≠ _; omega, S.orr⟩, S.fr⟩

theorem PSt.tail {w W : World} {L : List (Nat × List Value × TypeId)} {e : Nat × List Value × TypeId} {v : Bool} {h l b k : Int} {x a g r gl cap gu n N c c2 : Nat} {f f2 : Nat → Bool} (S : PSt w (e :: L) v h l b k x a g r gl cap gu n N f c f2 c2 W) : PSt w L v h l b k x a g r gl cap gu n N f c f2 c2 W :=
  ⟨S.kn.tail, S.p, S.rr, S.og.2, S.ox.2, S.ou.2, S.orr.2, S.fr⟩

/-- Another set in its place. -/
theorem PSt.other {w W : World} {L : List (Nat × List Value × TypeId)} {v : Bool} {h l b k : Int} {x a g x' a' g' r gl cap gu n N c c2 c' : Nat} {f f2 f' : Nat → Bool} (S : PSt w L v h l b k x a g r gl cap gu n N f c f2 c2 W) (P' : SetAt W v h l b k x' a' g' N f' c') (h1 : ∀ e ∈ L, e.1 < x' ∧ e.1 < g') (h2 : w.heap.size ≤ x' ∧ w.heap.size ≤ g') : PSt w L v h l b k x' a' g' r gl cap gu n N f' c' f2 c2 W := by
  have off : ∀ {D : Nat} {L : List (Nat × List Value × TypeId)}, (∀ e ∈ L, e.1 < D) → Off D L := by
    intro D L
    induction L with
    | nil => exact fun _ => trivial
    | cons e r ih => exact fun h => ⟨Nat.ne_of_lt (h e (by simp)), ih (fun e he => h e (by simp [he]))⟩
  exact ⟨S.kn, P', S.rr, off (fun e he => (h1 e he).2), off (fun e he => (h1 e he).1), S.ou, S.orr, ⟨h2.2, h2.1, S.fr.2.2⟩⟩

theorem lts_mem : ∀ {L : List (Nat × List Value × TypeId)} {D : Nat}, Lts D L → ∀ e ∈ L, e.1 < D
  | [], _, _, e, he => by cases he
  | a :: r, D, h, e, he => by
    rcases List.mem_cons.1 he with rfl | he
    · exact h.1
    · exact lts_mem h.2 e he

theorem occ_p {w W : World} {L : List (Nat × List Value × TypeId)} {v u : Bool} {h l b k qh ql cq : Int} {x a g r gl cap gu n m N c c2 : Nat} {f f2 f' : Nat → Bool} {C E : Int} (O : SetOf v h l b k n N) (hq : IsNum qh ql m) (hf : setO v n k N u m cq true f = f') (hC : cntO f f' = C) (hE : qE v n b u m cq = E) (S : PSt w L v h l b k x a g r gl cap gu n N f c f2 c2 W) :
    Calls Tryz.prog 43 #[.pointer (some ⟨x, 0, none⟩), pv u qh ql cq] W fun e W' => e = .returned (.tuple #[.int .i64 C, .int .i64 E]) ∧ PSt w L v h l b k x a g r gl cap gu n N f' c f2 c2 W' := by
  subst hf hC hE
  refine (occ_c O hq rfl rfl rfl W S.p).mono ?_
  rintro e W' ⟨rfl, hP, hK⟩
  exact ⟨rfl, S.turnP hP (hK.mono (Nat.le_refl _) (fun y hy _ => by simp at hy ⊢; exact Or.inl hy))⟩

theorem rel_p {w W : World} {L : List (Nat × List Value × TypeId)} {v u : Bool} {h l b k qh ql cq : Int} {x a g r gl cap gu n m N c c2 : Nat} {f f2 f' : Nat → Bool} {C E : Int} (O : SetOf v h l b k n N) (hq : IsNum qh ql m) (hf : setO v n k N u m cq false f = f') (hC : cntO f f' = C) (hE : qE v n b u m cq = E) (S : PSt w L v h l b k x a g r gl cap gu n N f c f2 c2 W) :
    Calls Tryz.prog 49 #[.pointer (some ⟨x, 0, none⟩), pv u qh ql cq] W fun e W' => e = .returned (.tuple #[.int .i64 C, .int .i64 E]) ∧ PSt w L v h l b k x a g r gl cap gu n N f' c f2 c2 W' := by
  subst hf hC hE
  refine (rel_c O hq rfl rfl rfl W S.p).mono ?_
  rintro e W' ⟨rfl, hP, hK⟩
  exact ⟨rfl, S.turnP hP (hK.mono (Nat.le_refl _) (fun y hy _ => by simp at hy ⊢; exact Or.inl hy))⟩

theorem rset_p_t {w W : World} {L : List (Nat × List Value × TypeId)} {v u : Bool} {h l b k qh ql cq : Int} {x a g r gl cap gu n m N c c2 : Nat} {f f2 f' : Nat → Bool} {C E : Int} (O : SetOf v h l b k n N) (hq : IsNum qh ql m) (hf : setO v n k N u m cq true f2 = f') (hC : cntO f2 f' = C) (hE : qE v n b u m cq = E) (S : PSt w L v h l b k x a g r gl cap gu n N f c f2 c2 W) :
    Calls Tryz.prog 83 #[.pointer (some ⟨r, 0, none⟩), pv u qh ql cq, .bool true] W fun e W' => e = .returned (.tuple #[.int .i64 C, .int .i64 E]) ∧ PSt w L v h l b k x a g r gl cap gu n N f c f' c2 W' := by
  cases hq0 : okP u m cq
  · have no : okP u m cq = false ∨ overB v n b u m cq = false := Or.inl hq0
    rw [setO_none O.cut O.len O.num.lt hq.lt no] at hf
    subst hf
    rw [cntO_same] at hC
    subst hC
    have hE' : E = 1 := by rw [← hE]; unfold qE; rw [hq0]; rfl
    subst hE'
    refine (rset7_arg (v := v) (t := true) hq hq0 W).mono ?_
    rintro e W' ⟨rfl, hb⟩
    exact ⟨rfl, S.below hb⟩
  · refine (rset7_t O hq hq0 hf hC hE W S.rr).mono ?_
    rintro e W' ⟨rfl, hR, hK⟩
    exact ⟨rfl, S.turnR hR (hK.mono (Nat.le_refl _) (fun y hy _ => by simp at hy ⊢; exact Or.inl hy))⟩

theorem rset_p_f {w W : World} {L : List (Nat × List Value × TypeId)} {v u : Bool} {h l b k qh ql cq : Int} {x a g r gl cap gu n m N c c2 : Nat} {f f2 f' : Nat → Bool} {C E : Int} (O : SetOf v h l b k n N) (hq : IsNum qh ql m) (hf : setO v n k N u m cq false f2 = f') (hC : cntO f2 f' = C) (hE : qE v n b u m cq = E) (S : PSt w L v h l b k x a g r gl cap gu n N f c f2 c2 W) :
    Calls Tryz.prog 83 #[.pointer (some ⟨r, 0, none⟩), pv u qh ql cq, .bool false] W fun e W' => e = .returned (.tuple #[.int .i64 C, .int .i64 E]) ∧ PSt w L v h l b k x a g r gl cap gu n N f c f' c2 W' := by
  cases hq0 : okP u m cq
  · have no : okP u m cq = false ∨ overB v n b u m cq = false := Or.inl hq0
    rw [setO_none O.cut O.len O.num.lt hq.lt no] at hf
    subst hf
    rw [cntO_same] at hC
    subst hC
    have hE' : E = 1 := by rw [← hE]; unfold qE; rw [hq0]; rfl
    subst hE'
    refine (rset7_arg (v := v) (t := false) hq hq0 W).mono ?_
    rintro e W' ⟨rfl, hb⟩
    exact ⟨rfl, S.below hb⟩
  · refine (rset7_f O hq hq0 hf hC hE W S.rr).mono ?_
    rintro e W' ⟨rfl, hR, hK⟩
    exact ⟨rfl, S.turnR hR (hK.mono (Nat.le_refl _) (fun y hy _ => by simp at hy ⊢; exact Or.inl hy))⟩

/-- What Next answers. -/
def nxA (v : Bool) (n : Nat) (k : Int) (f : Nat → Bool) (N c : Nat) : Value := match nextF f N c with
  | some p => .tuple #[pv v ((blkN v n k p / 18446744073709551616 : Nat) : Int) ((blkN v n k p % 18446744073709551616 : Nat) : Int) k, .int .i64 0]
  | none => .tuple #[pv false 0 0 0, .int .i64 9]

def nxF (f : Nat → Bool) (N c : Nat) : Nat → Bool := match nextF f N c with
  | some p => upd f p true
  | none => f

def nxC (f : Nat → Bool) (N c : Nat) : Nat := match nextF f N c with
  | some p => (p + 1) % N
  | none => c

theorem nxA_form (v : Bool) (n : Nat) (k : Int) (f : Nat → Bool) (N c : Nat) : ∃ (xv : Bool) (xh xl xb e : Int), nxA v n k f N c = .tuple #[pv xv xh xl xb, .int .i64 e] := by
  unfold nxA
  split
  · exact ⟨_, _, _, _, _, rfl⟩
  · exact ⟨_, _, _, _, _, rfl⟩

theorem next_b {W : World} {v : Bool} {h l b k : Int} {x a g n N c : Nat} {f : Nat → Bool} (O : SetOf v h l b k n N) (hT : TB W) (P : SetAt W v h l b k x a g N f c) :
    Calls Tryz.prog 46 #[.pointer (some ⟨x, 0, none⟩)] W fun e W' => e = .returned (nxA v n k f N c) ∧ SetAt W' v h l b k x a g N (nxF f N c) (nxC f N c) ∧ But [g, x] W.heap.size W W' := by
  cases hn : nextF f N c with
  | none =>
    refine (snext_full O hn W hT P).mono ?_
    rintro e W' ⟨rfl, hb⟩
    unfold nxA nxF nxC
    rw [hn]
    exact ⟨rfl, P.below hb, But.of hb (Nat.le_refl _)⟩
  | some p =>
    have hp := (nextF_is P.cur hn).1
    refine (snext_ok O hn (num_parts7 (blk_ok O.cut O.num.lt (by rw [O.len]; exact hp)).2) W hT P).mono ?_
    rintro e W' ⟨rfl, hP, hK⟩
    unfold nxA nxF nxC
    rw [hn]
    exact ⟨rfl, hP, hK⟩

theorem next_p {w W : World} {L : List (Nat × List Value × TypeId)} {v : Bool} {h l b k : Int} {x a g r gl cap gu n N c c2 : Nat} {f f2 : Nat → Bool} (O : SetOf v h l b k n N) (hT : TB w) (S : PSt w L v h l b k x a g r gl cap gu n N f c f2 c2 W) :
    Calls Tryz.prog 46 #[.pointer (some ⟨x, 0, none⟩)] W fun e W' => e = .returned (nxA v n k f N c) ∧ PSt w L v h l b k x a g r gl cap gu n N (nxF f N c) (nxC f N c) f2 c2 W' := by
  cases hn : nextF f N c with
  | none =>
    refine (snext_full O hn W (hT.below S.kn.bel) S.p).mono ?_
    rintro e W' ⟨rfl, hb⟩
    unfold nxA nxF nxC
    rw [hn]
    exact ⟨rfl, S.below hb⟩
  | some p =>
    have hp := (nextF_is S.p.cur hn).1
    refine (snext_ok O hn (num_parts7 (blk_ok O.cut O.num.lt (by rw [O.len]; exact hp)).2) W (hT.below S.kn.bel) S.p).mono ?_
    rintro e W' ⟨rfl, hP, hK⟩
    unfold nxA nxF nxC
    rw [hn]
    exact ⟨rfl, S.turnP hP hK⟩

theorem rnext_p {w W : World} {L : List (Nat × List Value × TypeId)} {v : Bool} {h l b k : Int} {x a g r gl cap gu n N c c2 : Nat} {f f2 : Nat → Bool} (O : SetOf v h l b k n N) (S : PSt w L v h l b k x a g r gl cap gu n N f c f2 c2 W) :
    Calls Tryz.prog 82 #[.pointer (some ⟨r, 0, none⟩)] W fun e W' => e = .returned (nxA v n k f2 N c2) ∧ PSt w L v h l b k x a g r gl cap gu n N f c (nxF f2 N c2) (nxC f2 N c2) W' := by
  cases hn : nextF f2 N c2 with
  | none =>
    refine (rnext_full O.small hn W S.rr).mono ?_
    rintro e W' ⟨rfl, hb⟩
    unfold nxA nxF nxC
    rw [hn]
    exact ⟨rfl, S.below hb⟩
  | some p =>
    refine (rnext_ok7 O.small hn rfl rfl W S.rr).mono ?_
    rintro e W' ⟨rfl, hR, hK⟩
    unfold nxA nxF nxC
    rw [hn]
    exact ⟨rfl, S.turnR hR hK⟩

theorem aim_p {w W : World} {L : List (Nat × List Value × TypeId)} {v u : Bool} {h l b k K qh ql cq A : Int} {x a g r gl cap gu n m N c c2 : Nat} {f f2 : Nat → Bool} (O : SetOf v h l b k n N) (hq : IsNum qh ql m) (S : PSt w L v h l b k x a g r gl cap gu n N f c f2 c2 W) :
    Calls Tryz.prog 33 #[.pointer (some ⟨r, 0, none⟩), .agg #[.int .i64 K, .bool u, .int .u64 qh, .int .u64 ql, .int .i64 cq, .int .i64 A]] W fun e W' => ∃ (u : Bool) (qh ql : Int) (m : Nat) (c' : Int), IsNum qh ql m ∧ e = .returned (pv u qh ql c') ∧ PSt w L v h l b k x a g r gl cap gu n N f c f2 c2 W' := by
  refine (aim_c O hq W S.rr).mono ?_
  rintro e W' ⟨u, qh, ql, m, c', hm, rfl, hb⟩
  exact ⟨u, qh, ql, m, c', hm, rfl, S.below hb⟩

theorem copy_p {w W : World} {L : List (Nat × List Value × TypeId)} {v : Bool} {h l b k : Int} {x a g r gl cap gu n N c c2 : Nat} {f f2 : Nat → Bool} (S : PSt w L v h l b k x a g r gl cap gu n N f c f2 c2 W) :
    Calls Tryz.prog 50 #[.pointer (some ⟨x, 0, none⟩)] W fun e W' => ∃ x' a' g', e = .returned (.pointer (some ⟨x', 0, none⟩)) ∧ PSt w L v h l b k x a g r gl cap gu n N f c f2 c2 W' ∧ SetAt W' v h l b k x' a' g' N f c ∧ (∀ y, y < W.heap.size → y ≠ x' ∧ y ≠ a' ∧ y ≠ g') ∧ (∀ e ∈ L, e.1 < x' ∧ e.1 < g') ∧ w.heap.size ≤ x' ∧ w.heap.size ≤ g' := by
  refine (scopy_c W S.p).mono ?_
  rintro e W' ⟨x', a', g', rfl, hP, hb, hx, hg, ha⟩
  have lt := lts_mem S.kn.lts
  have sz := S.kn.bel.size
  exact ⟨x', a', g', rfl, S.below hb, hP, fun y hy => ⟨by omega, by omega, by omega⟩, fun e he => by have := lt e he; omega, by omega, by omega⟩
end Go.Proofs.YtllidkflgjjkfaaGreatDoor

namespace Go.Proofs.YtllidkflgjjkfaaGreatDoor
open Go.ChangeShapes Go.WideShapes Go.ChangeAt Go.RowKit
set_option linter.unusedVariables false
set_option linter.unusedSimpArgs false

/-- Both are alike afterwards, and it says so. -/
def DoesRet (w : World) (L : List (Nat × List Value × TypeId)) (v : Bool) (h l b k : Int) (r gl cap gu n N : Nat) (e : Ending) (W' : World) : Prop := ∃ x a g f c, e = .returned (.tuple #[.pointer (some ⟨x, 0, none⟩), .bool true]) ∧ PSt w L v h l b k x a g r gl cap gu n N f c f c W'

set_option maxRecDepth 100000 in
set_option maxHeartbeats 3200000 in
theorem does7_next {w W : World} {L : List (Nat × List Value × TypeId)} {v u : Bool} {h l b k qh ql cq A : Int} {x a g r gl cap gu n m N c : Nat} {f : Nat → Bool} (O : SetOf v h l b k n N) (hT : TB w) (hq : IsNum qh ql m) (S : PSt w L v h l b k x a g r gl cap gu n N f c f c W) :
    Calls Tryz.prog 32 #[.pointer (some ⟨x, 0, none⟩), .pointer (some ⟨r, 0, none⟩), .agg #[.int .i64 1, .bool u, .int .u64 qh, .int .u64 ql, .int .i64 cq, .int .i64 A]] W fun e W' => DoesRet w L v h l b k r gl cap gu n N e W' := by
  have S0 := hide (S.push [.int .i64 1, .bool u, .int .u64 qh, .int .u64 ql, .int .i64 cq, .int .i64 A] 69)
  have AI := hide (fun W L (S' : PSt w L v h l b k x a g r gl cap gu n N f c f c W) => aim_p (u := u) (K := 1) (cq := cq) (A := A) O hq S')
  have NX := hide (fun W L (S' : PSt w L v h l b k x a g r gl cap gu n N f c f c W) => next_p O hT S')
  have RX := hide (fun W L f2 c2 (S' : PSt w L v h l b k x a g r gl cap gu n N f2 c2 f c W) => rnext_p O S')
  obtain ⟨xv, xh, xl, xb, xe, hx⟩ := nxA_form v n k f N c
  rw [hx] at NX RX
  have F := S0.out.kn.1
  simp only [Facts, CellsAt] at F
  clear O hT hq S hx
  go_enter Tryz.func32, Tryz.ntmps32
  go_wp2_with fail
  refine (AI.out _ _ S0.out).mono ?_
  rintro e w1 ⟨u1, qh1, ql1, m1, c1, _, rfl, hS⟩
  have S1 := hide (hS.push [.bool u1, .int .u64 qh1, .int .u64 ql1, .int .i64 c1] 28)
  have F1 := S1.out.kn.1
  simp only [Facts, CellsAt] at F1
  clear AI hS S0 F
  go_wp2_with fail
  refine (NX.out _ _ S1.out).mono ?_
  rintro e w2 ⟨rfl, hS⟩
  have S2 := hide (hS.push [.bool xv, .int .u64 xh, .int .u64 xl, .int .i64 xb] 28)
  have F2 := S2.out.kn.1
  simp only [Facts, CellsAt] at F2
  clear NX hS S1 F1
  go_wp2_with fail
  refine (RX.out _ _ _ _ S2.out).mono ?_
  rintro e w3 ⟨rfl, hS⟩
  have S3 := hide (hS.push [.bool xv, .int .u64 xh, .int .u64 xl, .int .i64 xb] 28)
  have F3 := S3.out.kn.1
  simp only [Facts, CellsAt] at F3
  clear RX hS S2 F2
  go_wp2
  go_ret2
  exact ⟨x, a, g, _, _, by first | rfl | simp, S3.out.tail.tail.tail.tail⟩

set_option maxRecDepth 100000 in
set_option maxHeartbeats 3200000 in
theorem does7_occ {w W : World} {L : List (Nat × List Value × TypeId)} {v u : Bool} {h l b k qh ql cq A : Int} {x a g r gl cap gu n m N c : Nat} {f : Nat → Bool} (O : SetOf v h l b k n N) (hq : IsNum qh ql m) (S : PSt w L v h l b k x a g r gl cap gu n N f c f c W) :
    Calls Tryz.prog 32 #[.pointer (some ⟨x, 0, none⟩), .pointer (some ⟨r, 0, none⟩), .agg #[.int .i64 2, .bool u, .int .u64 qh, .int .u64 ql, .int .i64 cq, .int .i64 A]] W fun e W' => DoesRet w L v h l b k r gl cap gu n N e W' := by
  have S0 := hide (S.push [.int .i64 2, .bool u, .int .u64 qh, .int .u64 ql, .int .i64 cq, .int .i64 A] 69)
  have AI := hide (fun W L (S' : PSt w L v h l b k x a g r gl cap gu n N f c f c W) => aim_p (u := u) (K := 2) (cq := cq) (A := A) O hq S')
  have OC := hide (fun W L (u : Bool) (qh ql c1 : Int) (m : Nat) (hm : IsNum qh ql m) (S' : PSt w L v h l b k x a g r gl cap gu n N f c f c W) => occ_p (u := u) (cq := c1) O hm rfl rfl rfl S')
  have RS := hide (fun W L f1 (u : Bool) (qh ql c1 : Int) (m : Nat) (hm : IsNum qh ql m) (S' : PSt w L v h l b k x a g r gl cap gu n N f1 c f c W) => rset_p_t (u := u) (cq := c1) O hm rfl rfl rfl S')
  have F := S0.out.kn.1
  simp only [Facts, CellsAt] at F
  clear O hq S
  go_enter Tryz.func32, Tryz.ntmps32
  go_wp2_with fail
  refine (AI.out _ _ S0.out).mono ?_
  rintro e w1 ⟨u1, qh1, ql1, m1, c1, hm, rfl, hS⟩
  have S1 := hide (hS.push [.bool u1, .int .u64 qh1, .int .u64 ql1, .int .i64 c1] 28)
  have F1 := S1.out.kn.1
  simp only [Facts, CellsAt] at F1
  obtain ⟨f', hf'⟩ : ∃ f', setO v n k N u1 m1 c1 true f = f' := ⟨_, rfl⟩
  obtain ⟨C, hC⟩ : ∃ C, cntO f f' = C := ⟨_, rfl⟩
  obtain ⟨E, hE⟩ : ∃ E, qE v n b u1 m1 c1 = E := ⟨_, rfl⟩
  have OC1 := hide (OC.out _ _ u1 qh1 ql1 c1 m1 hm S1.out)
  have RS1 := hide (fun W L f1 S' => RS.out W L f1 u1 qh1 ql1 c1 m1 hm S')
  rw [hf', hC, hE] at OC1 RS1
  clear AI OC RS hS S0 F hm hf' hC hE
  go_wp2_with fail
  refine OC1.out.mono ?_
  rintro e w2 ⟨rfl, hS⟩
  have S2 := hide hS
  have F2 := S2.out.kn.1
  simp only [Facts, CellsAt] at F2
  clear OC1 hS S1 F1
  go_wp2_with fail
  refine (RS1.out _ _ _ S2.out).mono ?_
  rintro e w3 ⟨rfl, hS⟩
  have S3 := hide hS
  clear RS1 hS S2 F2
  go_wp2
  go_ret2
  exact ⟨x, a, g, _, _, by first | rfl | simp, S3.out.tail.tail⟩

set_option maxRecDepth 100000 in
set_option maxHeartbeats 3200000 in
theorem does7_rel {w W : World} {L : List (Nat × List Value × TypeId)} {v u : Bool} {h l b k qh ql cq A : Int} {x a g r gl cap gu n m N c : Nat} {f : Nat → Bool} (O : SetOf v h l b k n N) (hq : IsNum qh ql m) (S : PSt w L v h l b k x a g r gl cap gu n N f c f c W) :
    Calls Tryz.prog 32 #[.pointer (some ⟨x, 0, none⟩), .pointer (some ⟨r, 0, none⟩), .agg #[.int .i64 3, .bool u, .int .u64 qh, .int .u64 ql, .int .i64 cq, .int .i64 A]] W fun e W' => DoesRet w L v h l b k r gl cap gu n N e W' := by
  have S0 := hide (S.push [.int .i64 3, .bool u, .int .u64 qh, .int .u64 ql, .int .i64 cq, .int .i64 A] 69)
  have AI := hide (fun W L (S' : PSt w L v h l b k x a g r gl cap gu n N f c f c W) => aim_p (u := u) (K := 3) (cq := cq) (A := A) O hq S')
  have OC := hide (fun W L (u : Bool) (qh ql c1 : Int) (m : Nat) (hm : IsNum qh ql m) (S' : PSt w L v h l b k x a g r gl cap gu n N f c f c W) => rel_p (u := u) (cq := c1) O hm rfl rfl rfl S')
  have RS := hide (fun W L f1 (u : Bool) (qh ql c1 : Int) (m : Nat) (hm : IsNum qh ql m) (S' : PSt w L v h l b k x a g r gl cap gu n N f1 c f c W) => rset_p_f (u := u) (cq := c1) O hm rfl rfl rfl S')
  have F := S0.out.kn.1
  simp only [Facts, CellsAt] at F
  clear O hq S
  go_enter Tryz.func32, Tryz.ntmps32
  go_wp2_with fail
  refine (AI.out _ _ S0.out).mono ?_
  rintro e w1 ⟨u1, qh1, ql1, m1, c1, hm, rfl, hS⟩
  have S1 := hide (hS.push [.bool u1, .int .u64 qh1, .int .u64 ql1, .int .i64 c1] 28)
  have F1 := S1.out.kn.1
  simp only [Facts, CellsAt] at F1
  obtain ⟨f', hf'⟩ : ∃ f', setO v n k N u1 m1 c1 false f = f' := ⟨_, rfl⟩
  obtain ⟨C, hC⟩ : ∃ C, cntO f f' = C := ⟨_, rfl⟩
  obtain ⟨E, hE⟩ : ∃ E, qE v n b u1 m1 c1 = E := ⟨_, rfl⟩
  have OC1 := hide (OC.out _ _ u1 qh1 ql1 c1 m1 hm S1.out)
  have RS1 := hide (fun W L f1 S' => RS.out W L f1 u1 qh1 ql1 c1 m1 hm S')
  rw [hf', hC, hE] at OC1 RS1
  clear AI OC RS hS S0 F hm hf' hC hE
  go_wp2_with fail
  refine OC1.out.mono ?_
  rintro e w2 ⟨rfl, hS⟩
  have S2 := hide hS
  have F2 := S2.out.kn.1
  simp only [Facts, CellsAt] at F2
  clear OC1 hS S1 F1
  go_wp2_with fail
  refine (RS1.out _ _ _ S2.out).mono ?_
  rintro e w3 ⟨rfl, hS⟩
  have S3 := hide hS
  clear RS1 hS S2 F2
  go_wp2
  go_ret2
  exact ⟨x, a, g, _, _, by first | rfl | simp, S3.out.tail.tail⟩

set_option maxRecDepth 100000 in
set_option maxHeartbeats 3200000 in
theorem does7_copy {w W : World} {L : List (Nat × List Value × TypeId)} {v u : Bool} {h l b k qh ql cq A : Int} {x a g r gl cap gu n m N c : Nat} {f : Nat → Bool} (O : SetOf v h l b k n N) (hT : TB w) (hq : IsNum qh ql m) (S : PSt w L v h l b k x a g r gl cap gu n N f c f c W) :
    Calls Tryz.prog 32 #[.pointer (some ⟨x, 0, none⟩), .pointer (some ⟨r, 0, none⟩), .agg #[.int .i64 4, .bool u, .int .u64 qh, .int .u64 ql, .int .i64 cq, .int .i64 A]] W fun e W' => DoesRet w L v h l b k r gl cap gu n N e W' := by
  have S0 := hide (S.push [.int .i64 4, .bool u, .int .u64 qh, .int .u64 ql, .int .i64 cq, .int .i64 A] 69)
  have AI := hide (fun W L (S' : PSt w L v h l b k x a g r gl cap gu n N f c f c W) => aim_p (u := u) (K := 4) (cq := cq) (A := A) O hq S')
  have NX := hide (fun W (P' : SetAt W v h l b k x a g N f c) (hT' : TB W) => next_b O hT' P')
  have CP := hide (fun W L (S' : PSt w L v h l b k x a g r gl cap gu n N f c f c W) => copy_p S')
  have RL := hide (fun W f1 c1 (P' : SetAt W v h l b k x a g N f1 c1) => rel_c (u := v) (c := b) O O.num rfl rfl rfl W P')
  obtain ⟨xv, xh, xl, xb, xe, hx⟩ := nxA_form v n k f N c
  rw [hx] at NX
  have TH := hide (fun W (hb : Below w.heap.size w W) => hT.below hb)
  have F := S0.out.kn.1
  simp only [Facts, CellsAt] at F
  clear O hT hq S hx
  go_enter Tryz.func32, Tryz.ntmps32
  go_wp2_with fail
  refine (AI.out _ _ S0.out).mono ?_
  rintro e w1 ⟨u1, qh1, ql1, m1, c1, _, rfl, hS⟩
  have S1 := hide (hS.push [.bool u1, .int .u64 qh1, .int .u64 ql1, .int .i64 c1] 28)
  have F1 := S1.out.kn.1
  simp only [Facts, CellsAt] at F1
  clear AI hS S0 F
  go_wp2_with fail
  refine (CP.out _ _ S1.out).mono ?_
  rintro e w2 ⟨x', a', g', rfl, hS, hP, hap, hL, hw1, hw2⟩
  have lx := S1.out.p.lt
  have z1 := hap x lx.1
  have z2 := hap g lx.2.2
  have S2 := hide hS
  have P2 := hide hP
  have Lm := hide hL
  have Wm : Hid (w.heap.size ≤ x' ∧ w.heap.size ≤ g') := ⟨hw1, hw2⟩
  have AP : Hid (x' ∉ [g, x] ∧ a' ∉ [g, x] ∧ g' ∉ [g, x]) := by
    show _ ∧ _ ∧ _
    simp only [List.mem_cons, List.not_mem_nil, or_false, not_or]
    exact ⟨⟨z2.1.symm, z1.1.symm⟩, ⟨z2.2.1.symm, z1.2.1.symm⟩, ⟨z2.2.2.symm, z1.2.2.symm⟩⟩
  have F2 := S2.out.kn.1
  simp only [Facts, CellsAt] at F2
  clear CP hS hP hap hL hw1 hw2 lx z1 z2 S1 F1
  have NX2 := hide (NX.out _ S2.out.p (TH.out _ S2.out.kn.bel))
  clear NX TH
  go_wp2_with fail
  refine NX2.out.mono ?_
  rintro e w3 ⟨rfl, hP3, hK3⟩
  have S3 := hide (S2.out.turnP hP3 hK3)
  have P3 := hide (P2.out.but hK3 AP.out.1 AP.out.2.1 AP.out.2.2)
  have y0 := S3.out.rr.hd.cell 0
  have y1 := S3.out.rr.hd.cell 1
  have y2 := S3.out.rr.hd.cell 2
  have y3 := S3.out.rr.hd.cell 3
  have yl := S3.out.rr.hd.lt
  have RL2 := hide (RL.out _ _ _ S3.out.p)
  clear NX2 hP3 hK3 S2 P2 F2 RL
  go_wp2_with fail
  refine RL2.out.mono ?_
  rintro e w4 ⟨rfl, hP4, hK4⟩
  have hK5 := hK4.mono (Nat.le_refl _) (M := [g, x]) (fun y hy _ => by simp at hy ⊢; exact Or.inl hy)
  have S4 := hide (S3.out.turnP hP4 hK5)
  have P4 := hide (P3.out.but hK5 AP.out.1 AP.out.2.1 AP.out.2.2)
  clear RL2 hP4 hK4 hK5 S3 P3 y0 y1 y2 y3
  go_wp2
  go_ret2
  exact ⟨x', a', g', _, _, by first | rfl | simp, S4.out.tail.tail.other P4.out (fun e he => Lm.out e (by simp [he])) Wm.out⟩

set_option maxRecDepth 100000 in
set_option maxHeartbeats 3200000 in
theorem does7_none {w W : World} {L : List (Nat × List Value × TypeId)} {v u : Bool} {h l b k K qh ql cq A : Int} {x a g r gl cap gu n m N c : Nat} {f : Nat → Bool} (k1 : ¬ K = 1) (k2 : ¬ K = 2) (k3 : ¬ K = 3) (k4 : ¬ K = 4) (O : SetOf v h l b k n N) (hq : IsNum qh ql m) (S : PSt w L v h l b k x a g r gl cap gu n N f c f c W) :
    Calls Tryz.prog 32 #[.pointer (some ⟨x, 0, none⟩), .pointer (some ⟨r, 0, none⟩), .agg #[.int .i64 K, .bool u, .int .u64 qh, .int .u64 ql, .int .i64 cq, .int .i64 A]] W fun e W' => DoesRet w L v h l b k r gl cap gu n N e W' := by
  have S0 := hide (S.push [.int .i64 K, .bool u, .int .u64 qh, .int .u64 ql, .int .i64 cq, .int .i64 A] 69)
  have AI := hide (fun W L (S' : PSt w L v h l b k x a g r gl cap gu n N f c f c W) => aim_p (u := u) (K := K) (cq := cq) (A := A) O hq S')
  have F := S0.out.kn.1
  simp only [Facts, CellsAt] at F
  clear O hq S
  go_enter Tryz.func32, Tryz.ntmps32
  go_wp2_with fail
  refine (AI.out _ _ S0.out).mono ?_
  rintro e w1 ⟨u1, qh1, ql1, m1, c1, _, rfl, hS⟩
  have S1 := hide (hS.push [.bool u1, .int .u64 qh1, .int .u64 ql1, .int .i64 c1] 28)
  have F1 := S1.out.kn.1
  simp only [Facts, CellsAt] at F1
  clear AI hS S0 F
  go_wp2
  go_ret2
  exact ⟨x, a, g, _, _, by first | rfl | simp, S1.out.tail.tail⟩

theorem does7_c {w W : World} {L : List (Nat × List Value × TypeId)} {v u : Bool} {h l b k K qh ql cq A : Int} {x a g r gl cap gu n m N c : Nat} {f : Nat → Bool} (O : SetOf v h l b k n N) (hT : TB w) (hq : IsNum qh ql m) (S : PSt w L v h l b k x a g r gl cap gu n N f c f c W) :
    Calls Tryz.prog 32 #[.pointer (some ⟨x, 0, none⟩), .pointer (some ⟨r, 0, none⟩), .agg #[.int .i64 K, .bool u, .int .u64 qh, .int .u64 ql, .int .i64 cq, .int .i64 A]] W fun e W' => DoesRet w L v h l b k r gl cap gu n N e W' := by
  by_cases k1 : K = 1
  · subst k1; exact does7_next O hT hq S
  · by_cases k2 : K = 2
    · subst k2; exact does7_occ O hq S
    · by_cases k3 : K = 3
      · subst k3; exact does7_rel O hq S
      · by_cases k4 : K = 4
        · subst k4; exact does7_copy O hT hq S
        · exact does7_none k1 k2 k3 k4 O hq S
end Go.Proofs.YtllidkflgjjkfaaGreatDoor
