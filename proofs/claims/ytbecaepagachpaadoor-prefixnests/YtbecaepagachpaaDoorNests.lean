/-
  The walk of PrefixNests.
-/
import Derived.Test.YtbecaepagachpaaDoorPfx4
import Derived.Test.YtbecaepagachpaaDoorHex
import Derived.Deep.DeepCutAuto
namespace Go.Proofs.YtbecaepagachpaaDoor
open Go.ChangeShapes Go.WideShapes Go.ChangeAt Go.RowKit
set_option linter.unusedVariables false
set_option linter.unusedSimpArgs false

/-- What a law of two prefixes and an address keeps. -/
def NK (w : World) (v : Bool) (ph pl b : Int) (u : Bool) (qh ql c : Int) (s : Bool) (ah al : Int) (wr : World) : Prop :=
  Blk wr w.heap.size #[.bool v, .int .u64 ph, .int .u64 pl, .int .i64 b] 35 ∧ Blk wr (w.heap.size + 1) #[.bool u, .int .u64 qh, .int .u64 ql, .int .i64 c] 35 ∧ Blk wr (w.heap.size + 2) #[.bool s, .int .u64 ah, .int .u64 al] 26 ∧ Below w.heap.size w wr

theorem NK.below {w W w1 : World} {v : Bool} {ph pl b : Int} {u : Bool} {qh ql c : Int} {s : Bool} {ah al : Int} (k : NK w v ph pl b u qh ql c s ah al W) (hb : Below W.heap.size W w1) : NK w v ph pl b u qh ql c s ah al w1 := ⟨k.1.below hb, k.2.1.below hb, k.2.2.1.below hb, k.2.2.2.trans (hb.mono k.2.2.2.size)⟩

theorem NK.cells {w W : World} {v : Bool} {ph pl b : Int} {u : Bool} {qh ql c : Int} {s : Bool} {ah al : Int} (k : NK w v ph pl b u qh ql c s ah al W) :
    W.cell? ⟨w.heap.size, 0, none⟩ = some (.bool v) ∧ W.cell? ⟨w.heap.size, 1, none⟩ = some (.int .u64 ph) ∧ W.cell? ⟨w.heap.size, 2, none⟩ = some (.int .u64 pl) ∧ W.cell? ⟨w.heap.size, 3, none⟩ = some (.int .i64 b) ∧ W.cell? ⟨w.heap.size + 1, 0, none⟩ = some (.bool u) ∧ W.cell? ⟨w.heap.size + 1, 1, none⟩ = some (.int .u64 qh) ∧ W.cell? ⟨w.heap.size + 1, 2, none⟩ = some (.int .u64 ql) ∧ W.cell? ⟨w.heap.size + 1, 3, none⟩ = some (.int .i64 c) ∧ W.cell? ⟨w.heap.size + 1 + 1, 0, none⟩ = some (.bool s) ∧ W.cell? ⟨w.heap.size + 1 + 1, 1, none⟩ = some (.int .u64 ah) ∧ W.cell? ⟨w.heap.size + 1 + 1, 2, none⟩ = some (.int .u64 al) :=
  ⟨k.1.cell 0, k.1.cell 1, k.1.cell 2, k.1.cell 3, k.2.1.cell 0, k.2.1.cell 1, k.2.1.cell 2, k.2.1.cell 3, k.2.2.1.cell 0, k.2.2.1.cell 1, k.2.2.1.cell 2⟩

theorem ofN_mod (v : Bool) (a : Nat) (b : Int) : ofN v a b % 2 ^ behindP v b = 0 := Nat.mul_mod_left _ _

theorem okA_le {v : Bool} {a c : Nat} (h : okA v a = true) (hc : c ≤ a) : okA v c = true := by
  cases v
  · simp [okA] at *; omega
  · rfl

theorem has_parts {v : Bool} {n : Nat} {b : Int} {u : Bool} {a : Nat} (h : hasB v n b u a = true) : v = u ∧ fitsB v a b = true ∧ n = ofN v a b := by
  simp only [hasB, Bool.and_eq_true, decide_eq_true_eq] at h
  obtain ⟨⟨h1, rfl⟩, h3⟩ := h
  exact ⟨rfl, h1, h3⟩

theorem has_mk {v : Bool} {n : Nat} {b : Int} {a : Nat} (h1 : fitsB v a b = true) (h2 : n = ofN v a b) : hasB v n b v a = true := by
  simp only [hasB, h1, Bool.true_and, Bool.and_eq_true, decide_eq_true_eq]
  exact ⟨trivial, h2⟩

theorem has_ok {v : Bool} {n : Nat} {b : Int} {u : Bool} {a : Nat} (h : hasB v n b u a = true) : okP v n b = true := by
  obtain ⟨rfl, h1, rfl⟩ := has_parts h
  obtain ⟨k1, k2, k3⟩ := fitsB_parts h1
  simp only [okP, fitsB, Bool.and_eq_true, decide_eq_true_eq]
  exact ⟨⟨⟨okA_le k1 (ofN_le _ _ _), k2⟩, k3⟩, ofN_mod _ _ _⟩

/-- Fewer bits of fewer bits. -/
theorem ofN_ofN {v : Bool} {a : Nat} {b c : Int} (h : c ≤ b) : ofN v (ofN v a b) c = ofN v a c := by
  have e : behindP v c = behindP v b + (behindP v c - behindP v b) := by unfold behindP; omega
  unfold ofN
  generalize behindP v b = k at *
  generalize behindP v c - k = j at *
  rw [e, Nat.pow_add, ← Nat.div_div_eq_div_mul, Nat.mul_div_cancel _ (pow_pos2 k), Nat.div_div_eq_div_mul]

theorem fits_less {v : Bool} {a d : Nat} {b c : Int} (h : fitsB v a b = true) (hd : okA v d = true) (c0 : 0 ≤ c) (hc : c ≤ b) : fitsB v d c = true := by
  obtain ⟨_, _, h3⟩ := fitsB_parts h
  simp only [fitsB, hd, Bool.true_and, Bool.and_eq_true, decide_eq_true_eq]
  omega

theorem within_parts {v : Bool} {n : Nat} {b : Int} {u : Bool} {m : Nat} {c : Int} (h : withinB v n b u m c = true) : okP v n b = true ∧ c ≤ b ∧ hasB u m c v n = true := by
  simp only [withinB, Bool.and_eq_true, decide_eq_true_eq] at h
  exact ⟨h.1.1, h.1.2, h.2⟩

/-- What lies within has no other address. -/
theorem within_has {v : Bool} {n : Nat} {b : Int} {u : Bool} {m : Nat} {c : Int} {s : Bool} {a : Nat} (h : withinB v n b u m c = true) (hp : hasB v n b s a = true) : hasB u m c s a = true := by
  obtain ⟨h1, h2, h3⟩ := within_parts h
  obtain ⟨rfl, k1, k2⟩ := has_parts hp
  obtain ⟨rfl, j1, j2⟩ := has_parts h3
  have c0 := (fitsB_parts j1).2.1
  refine has_mk (fits_less k1 (fitsB_parts k1).1 c0 h2) ?_
  rw [j2, k2, ofN_ofN h2]

/-- Two that have one address: the longer one lies within. -/
theorem has_within {v : Bool} {n : Nat} {b : Int} {u : Bool} {m : Nat} {c : Int} {s : Bool} {a : Nat} (h : hasB v n b s a = true) (h2 : hasB u m c s a = true) (hc : c ≤ b) : withinB v n b u m c = true := by
  have hok := has_ok h
  obtain ⟨rfl, k1, k2⟩ := has_parts h
  obtain ⟨rfl, j1, j2⟩ := has_parts h2
  simp only [withinB, hok, Bool.true_and, Bool.and_eq_true, decide_eq_true_eq]
  refine ⟨hc, has_mk (fits_less k1 (fitsB_parts (okP_parts hok).1).1 (fitsB_parts j1).2.1 hc) ?_⟩
  rw [k2, ofN_ofN hc, j2]

/-- How the answers hang together. -/
def NestsOk (x y p q pq qp : Bool) : Prop := (x = true → qp = true) ∧ (y = true → pq = true) ∧ (x = true → p = true → q = true) ∧ (y = true → q = true → p = true) ∧ (p = true → q = true → x = true ∨ y = true)

theorem nests_ok (v : Bool) (n : Nat) (b : Int) (u : Bool) (m : Nat) (c : Int) (s : Bool) (a : Nat) : NestsOk (withinB v n b u m c) (withinB u m c v n b) (hasB v n b s a) (hasB u m c s a) (hasB v n b u m) (hasB u m c v n) := by
  refine ⟨fun h => (within_parts h).2.2, fun h => (within_parts h).2.2, fun h h2 => within_has h h2, fun h h2 => within_has h h2, fun h h2 => ?_⟩
  rcases Int.le_total c b with hc | hc
  · exact Or.inl (has_within h h2 hc)
  · exact Or.inr (has_within h2 h hc)

set_option maxRecDepth 100000 in
set_option maxHeartbeats 1600000 in
theorem nests_walk {v u s : Bool} {ph pl b qh ql c ah al : Int} {n m a : Nat} (hp : IsNum ph pl n) (hq : IsNum qh ql m) (ha : IsNum ah al a) (w : World) (hL : LW w)
    (aw : ∀ w, LW w → Calls Tryd.prog 12 #[] w fun e w' => e = .returned (.bool true) ∧ Below w.heap.size w w') :
    Calls Tryd.prog 5 #[pv v ph pl b, pv u qh ql c, av s ah al] w fun e w' => e = .returned (.bool true) ∧ Below w.heap.size w w' := by
  have hz := hL.sz
  have R0 : NK w v ph pl b u qh ql c s ah al (((w.alloc (.cells #[.bool v, .int .u64 ph, .int .u64 pl, .int .i64 b] 35)).alloc (.cells #[.bool u, .int .u64 qh, .int .u64 ql, .int .i64 c] 35)).alloc (.cells #[.bool s, .int .u64 ah, .int .u64 al] 26)) :=
    ⟨((Blk.new _ _ _).alloc _).alloc _, Blk.alloc (by simpa using Blk.new (w.alloc (.cells #[.bool v, .int .u64 ph, .int .u64 pl, .int .i64 b] 35)) #[.bool u, .int .u64 qh, .int .u64 ql, .int .i64 c] 35) _, by simpa using Blk.new ((w.alloc (.cells #[.bool v, .int .u64 ph, .int .u64 pl, .int .i64 b] 35)).alloc (.cells #[.bool u, .int .u64 qh, .int .u64 ql, .int .i64 c] 35)) #[.bool s, .int .u64 ah, .int .u64 al] 26, by repeat (first | with_reducible exact Below.refl _ _ | with_reducible refine Below.drew ?_ | with_reducible refine Below.alloc ?_ (by first | omega | (simp <;> omega)) _ | with_reducible refine Below.setCell ?_ (by first | omega | (simp <;> omega)) _)⟩
  have AW := aw _ (hL.of R0.2.2.2 hz)
  have N := nests_ok v n b u m c s a
  have O1 := fun w' => over_c (v := v) (b := b) (u := u) (c := c) hp hq w'
  have O2 := fun w' => over_c (v := u) (b := c) (u := v) (c := b) hq hp w'
  have W1 := fun w' => within_c (v := v) (b := b) (u := u) (c := c) hp hq w'
  have W2 := fun w' => within_c (v := u) (b := c) (u := v) (c := b) hq hp w'
  have H1 := fun w' => has_c (v := v) (b := b) (u := s) hp ha w'
  have H2 := fun w' => has_c (v := u) (b := c) (u := s) hq ha w'
  have H3 := fun w' => has_c (v := v) (b := b) (u := u) hp hq w'
  have H4 := fun w' => has_c (v := u) (b := c) (u := v) hq hp w'
  unfold overB at O1 O2
  generalize withinB v n b u m c = x at *
  generalize withinB u m c v n b = y at *
  generalize hasB v n b s a = p at *
  generalize hasB u m c s a = q at *
  generalize hasB v n b u m = pq at *
  generalize hasB u m c v n = qp at *
  obtain ⟨N1, N2, N3, N4, N5⟩ := N
  obtain ⟨o, ho⟩ : ∃ o, (x || y) = o := ⟨_, rfl⟩
  rw [Bool.or_comm y x] at O2
  rw [ho] at O1 O2
  have M1 : Hid (p = true → q = true → o = true) := fun h1 h2 => by rw [← ho]; rcases N5 h1 h2 with h | h <;> simp [h]
  have M2 : Hid (o = true → pq = true ∨ qp = true) := fun h => by
    rw [← ho] at h
    rcases Bool.or_eq_true _ _ ▸ h with h | h
    · exact Or.inr (N1 h)
    · exact Or.inl (N2 h)
  have M3 : Hid (x = true → p = true → q = true) := N3
  have hoH : Hid ((x || y) = o) := ho
  have O1' : Hid _ := O1
  have O2' : Hid _ := O2
  have W1' : Hid _ := W1
  have W2' : Hid _ := W2
  have H1' : Hid _ := H1
  have H2' : Hid _ := H2
  have H3' : Hid _ := H3
  have H4' : Hid _ := H4
  clear O1 O2 W1 W2 H1 H2 H3 H4 N1 N2 N3 N4 N5 ho hp hq ha hL aw
  go_enter Tryd.func5, Tryd.ntmps5
  go_wp2_with fail
  refine AW.mono ?_
  rintro e w1 ⟨rfl, hb⟩
  have R := R0.below hb
  have F := R.cells
  clear hb R0 AW
  go_wp2_with fail
  refine (O1'.out _).mono ?_
  rintro e wn ⟨rfl, hb⟩
  replace R := NK.below R hb
  replace F := NK.cells R
  clear hb
  go_upto_region 4 with fail
  go_cut [29] (fun t wc => t = .bool false ∧ NK w v ph pl b u qh ql c s ah al wc)
  case first =>
    cases x
    · obtain rfl : y = o := by simpa using hoH.out
      go_wp2_with fail
      refine (O2'.out _).mono ?_
      rintro e wn ⟨rfl, hb⟩
      replace R := NK.below R hb
      replace F := NK.cells R
      clear hb
      go_wp2_with fail
      refine (W1'.out _).mono ?_
      rintro e wn ⟨rfl, hb⟩
      replace R := NK.below R hb
      replace F := NK.cells R
      clear hb
      go_wp2_with fail
      refine (W2'.out _).mono ?_
      rintro e wn ⟨rfl, hb⟩
      replace R := NK.below R hb
      replace F := NK.cells R
      clear hb
      go_wp2_with fail
      go_meet
      case rel => exact ⟨by first | rfl | simp, R⟩
    · obtain rfl : o = true := by simpa using hoH.out.symm
      go_wp2_with fail
      refine (O2'.out _).mono ?_
      rintro e wn ⟨rfl, hb⟩
      replace R := NK.below R hb
      replace F := NK.cells R
      clear hb
      go_wp2_with fail
      refine (W1'.out _).mono ?_
      rintro e wn ⟨rfl, hb⟩
      replace R := NK.below R hb
      replace F := NK.cells R
      clear hb
      go_wp2_with fail
      go_meet
      case rel => exact ⟨by first | rfl | simp, R⟩
  case rest =>
    obtain ⟨rfl, R1⟩ := hcut
    clear R F
    have R := R1
    have F := R.cells
    clear R1
    go_upto_region 6 with fail
    go_cut [41] (fun t wc => t = .bool false ∧ NK w v ph pl b u qh ql c s ah al wc)
    case first =>
      cases p
      · skip
        go_wp2_with fail
        refine (H1'.out _).mono ?_
        rintro e wn ⟨rfl, hb⟩
        replace R := NK.below R hb
        replace F := NK.cells R
        clear hb
        go_wp2_with fail
        go_meet
        case rel => exact ⟨by first | rfl | simp, R⟩
      · cases q
        · skip
          go_wp2_with fail
          refine (H1'.out _).mono ?_
          rintro e wn ⟨rfl, hb⟩
          replace R := NK.below R hb
          replace F := NK.cells R
          clear hb
          go_wp2_with fail
          refine (H2'.out _).mono ?_
          rintro e wn ⟨rfl, hb⟩
          replace R := NK.below R hb
          replace F := NK.cells R
          clear hb
          go_wp2_with fail
          go_meet
          case rel => exact ⟨by first | rfl | simp, R⟩
        · obtain rfl : o = true := M1.out rfl rfl
          go_wp2_with fail
          refine (H1'.out _).mono ?_
          rintro e wn ⟨rfl, hb⟩
          replace R := NK.below R hb
          replace F := NK.cells R
          clear hb
          go_wp2_with fail
          refine (H2'.out _).mono ?_
          rintro e wn ⟨rfl, hb⟩
          replace R := NK.below R hb
          replace F := NK.cells R
          clear hb
          go_wp2_with fail
          go_meet
          case rel => exact ⟨by first | rfl | simp, R⟩
    case rest =>
      obtain ⟨rfl, R1⟩ := hcut
      clear R F
      have R := R1
      have F := R.cells
      clear R1
      go_upto_region 8 with fail
      go_cut [55] (fun t wc => t = .bool false ∧ NK w v ph pl b u qh ql c s ah al wc)
      case first =>
        cases x
        · skip
          go_wp2_with fail
          refine (W1'.out _).mono ?_
          rintro e wn ⟨rfl, hb⟩
          replace R := NK.below R hb
          replace F := NK.cells R
          clear hb
          go_wp2_with fail
          go_meet
          case rel => exact ⟨by first | rfl | simp, R⟩
        · cases p
          · skip
            go_wp2_with fail
            refine (W1'.out _).mono ?_
            rintro e wn ⟨rfl, hb⟩
            replace R := NK.below R hb
            replace F := NK.cells R
            clear hb
            go_wp2_with fail
            refine (H1'.out _).mono ?_
            rintro e wn ⟨rfl, hb⟩
            replace R := NK.below R hb
            replace F := NK.cells R
            clear hb
            go_wp2_with fail
            go_meet
            case rel => exact ⟨by first | rfl | simp, R⟩
          · obtain rfl : q = true := M3.out rfl rfl
            go_wp2_with fail
            refine (W1'.out _).mono ?_
            rintro e wn ⟨rfl, hb⟩
            replace R := NK.below R hb
            replace F := NK.cells R
            clear hb
            go_wp2_with fail
            refine (H1'.out _).mono ?_
            rintro e wn ⟨rfl, hb⟩
            replace R := NK.below R hb
            replace F := NK.cells R
            clear hb
            go_wp2_with fail
            refine (H2'.out _).mono ?_
            rintro e wn ⟨rfl, hb⟩
            replace R := NK.below R hb
            replace F := NK.cells R
            clear hb
            go_wp2_with fail
            go_meet
            case rel => exact ⟨by first | rfl | simp, R⟩
      case rest =>
        obtain ⟨rfl, R1⟩ := hcut
        clear R F
        have R := R1
        have F := R.cells
        clear R1
        cases o
        · go_wp2
          go_ret
          exact ⟨by first | rfl | simp, R.2.2.2⟩
        · cases pq
          · obtain rfl : qp = true := by simpa using M2.out rfl
            go_wp2_with fail
            refine (H3'.out _).mono ?_
            rintro e wn ⟨rfl, hb⟩
            replace R := NK.below R hb
            replace F := NK.cells R
            clear hb
            go_wp2_with fail
            refine (H4'.out _).mono ?_
            rintro e wn ⟨rfl, hb⟩
            replace R := NK.below R hb
            replace F := NK.cells R
            clear hb
            go_wp2
            go_ret
            exact ⟨by first | rfl | simp, R.2.2.2⟩
          · skip
            go_wp2_with fail
            refine (H3'.out _).mono ?_
            rintro e wn ⟨rfl, hb⟩
            replace R := NK.below R hb
            replace F := NK.cells R
            clear hb
            go_wp2
            go_ret
            exact ⟨by first | rfl | simp, R.2.2.2⟩
end Go.Proofs.YtbecaepagachpaaDoor
