/-
  The reference's rows of bits: what Bits returns.
-/
import Derived.Test.YtgbpnekinbdadaaDoorNumIs
import Derived.Test.YtgbpnekinbdadaaDoorBitMath
import Derived.Deep.DeepCutAuto
namespace Go.Proofs.YtgbpnekinbdadaaDoor
open Go.ChangeShapes Go.WideShapes Go.ChangeAt Go.RowKit
set_option linter.unusedVariables false
set_option linter.unusedSimpArgs false

theorem infoInt : (Tryd.prog.info? 3).map (fun i => (i.zero, i.size, i.bytes)) = some (some (.int .i64 0), 1, 8) := by kernel_rfl

/-- One round of the loops: what is known of the row and of the world behind an append of one number. -/
theorem grow_one {w wr w' : World} {v v' : Value} {k : Nat} {xs : List Int} {x : Int} {o : Obj} (hk : k < 1000000) (hb : Below w.heap.size w wr) (hs : w.heap.size ≤ wr.heap.size)
    (hown : wr.ownsRow w.heap.size 3 1 v k (xs.map (Value.int .i64)))
    (h1 : w'.ownsRow w.heap.size 3 1 v' (k + 1) (xs.map (Value.int .i64) ++ [.int .i64 x])) (h2 : (wr.alloc o).grownBy w' v.ownBlock) :
    w'.ownsRow w.heap.size 3 1 v' (k + 1) ((xs ++ [x]).map (Value.int .i64)) ∧ Below w.heap.size w w' := by
  refine ⟨by simpa using h1, ?_⟩
  refine Below.grown (hb.alloc hs o) h2 (by simp; omega) (fun j hj => ?_)
  have := (hown.lt j hj).1
  exact this

set_option maxHeartbeats 1000000 in
theorem bits_w (H L : Nat) (hH : H < 18446744073709551616) (hL : L < 18446744073709551616) (w : World) :
    Calls Tryd.prog 41 #[nv H L] w fun e w' => ∃ v, e = .returned v ∧ w'.ownsRow w.heap.size 3 1 v 128 ((bitsL (H * 18446744073709551616 + L) 128).map (Value.int .i64)) ∧ Below w.heap.size w w' := by
  obtain ⟨i0, hi, hz0, hz1, hz2⟩ := info_parts infoInt
  go_enter Tryd.func41, Tryd.ntmps41
  go_wp2_with fail
  go_loopw [3, 4, 6] (fun v x i wr => ∃ k : Nat, k ≤ 64 ∧ i = .int .i64 k ∧ x = .int .u64 ((L / 2 ^ k : Nat) : Int) ∧ wr.ownsRow w.heap.size 3 1 v k ((bitsL L k).map (Value.int .i64)) ∧ Below w.heap.size w wr) (fun _ _ i _ => 64 - (intOf i).toNat)
  case atStart =>
    refine ⟨0, by omega, rfl, by simp, ?_, by repeat (first | with_reducible exact Below.refl _ _ | with_reducible refine Below.drew ?_ | with_reducible refine Below.alloc ?_ (by first | omega | (simp <;> omega)) _ | with_reducible refine Below.setCell ?_ (by first | omega | (simp <;> omega)) _)⟩
    have := World.ownsRow_made (base := w.heap.size) (e := 3) (size := 1) (w.alloc (Obj.cells #[Value.int IntKind.u64 H, Value.int IntKind.u64 L] 24)) #[] 0 (by simp) (by unfold maxLen; omega) (by simp)
    simpa [bitsL] using this
  case round =>
    obtain ⟨k, hk, rfl, rfl, hown, hb⟩ := hrel
    have hs := hb.size
    by_cases hlt : k < 64
    · obtain ⟨x, hx⟩ : ∃ x : Int, x = ((L / 2 ^ k : Nat) : Int) := ⟨_, rfl⟩
      have x0 : 0 ≤ x := by rw [hx]; exact Int.natCast_nonneg _
      have x1 : x < 18446744073709551616 := by
        have := Nat.div_le_self L (2 ^ k)
        generalize L / 2 ^ k = z at *
        omega
      have HX : Hid (x = ((L / 2 ^ k : Nat) : Int)) := hx
      rw [← hx]
      clear hx
      have hki : (k : Int) < 64 := by omega
      go_wp2_with (first | (at_builtin; refine wpList_append_own _ rfl _ _ 49 rfl w.heap.size 3 i0 (.int .i64 0) 1 8 Tryd.underlying49 hi hz0 hz1 hz2 rfl (by decide) _ _ _ rfl (hown.alloc _) ⟨wr.heap.size, 0, none⟩ 1 1 [.int .i64 (x % 2)] rfl rfl ?c1 ?c2 ?c3 ?c4 ?c5 ?_))
      case c1 =>
        intro j u hj
        match j, hj with
        | 0, hj => simp at hj; subst hj; simp [Addr.add]
      case c2 => intro u hu; simp at hu; subst hu; rfl
      case c3 => unfold maxLen; omega
      case c4 => omega
      case c5 => simp; omega
      intro v' w1 hown' hgrow _
      obtain ⟨ho2, hb2⟩ := grow_one (by omega) hb hs hown hown' hgrow
      clear hown hown' hgrow
      go_wp2
      go_roundw
      case measure => simp [intOf]; omega
      case rel =>
        have e1 : x % 2 = ((bitN L k : Nat) : Int) := by rw [HX.out]; unfold bitN; omega
        have e2 : x / 2 = ((L / 2 ^ (k + 1) : Nat) : Int) := by rw [HX.out, Nat.pow_succ, ← Nat.div_div_eq_div_mul]; omega
        refine ⟨k + 1, by omega, by go_num, by rw [← e2], ?_, hb2⟩
        rw [e1] at ho2
        exact ho2
    · have k64 : k = 64 := by omega
      have hown64 : wr.ownsRow w.heap.size 3 1 u3 64 ((bitsL L 64).map (Value.int .i64)) := by rw [k64] at hown; exact hown
      obtain ⟨P, hP⟩ : ∃ P : List Int, bitsL L 64 = P := ⟨_, rfl⟩
      rw [hP] at hown64
      have HP : Hid (bitsL L 64 = P) := hP
      obtain ⟨q, hq⟩ : ∃ q : Int, ((L / 2 ^ k : Nat) : Int) = q := ⟨_, rfl⟩
      rw [hq]
      have hnl : ¬ (k : Int) < 64 := by omega
      clear hlt hP hown k64 hq
      go_wp2_with fail
      go_loopw [3, 5, 7] (fun v x i wr2 => ∃ k : Nat, k ≤ 64 ∧ i = .int .i64 k ∧ x = .int .u64 ((H / 2 ^ k : Nat) : Int) ∧ wr2.ownsRow w.heap.size 3 1 v (64 + k) ((P ++ bitsL H k).map (Value.int .i64)) ∧ Below w.heap.size w wr2) (fun _ _ i _ => 64 - (intOf i).toNat)
      case atStart => exact ⟨0, by omega, rfl, by simp, by simpa [show bitsL H 0 = [] from rfl] using hown64, hb⟩
      case round =>
        clear hown64 hb hs
        obtain ⟨k, hk, rfl, rfl, hown2, hb3⟩ := hrel
        have hs3 := hb3.size
        by_cases hlt : k < 64
        · obtain ⟨x, hx⟩ : ∃ x : Int, x = ((H / 2 ^ k : Nat) : Int) := ⟨_, rfl⟩
          have x0 : 0 ≤ x := by rw [hx]; exact Int.natCast_nonneg _
          have x1 : x < 18446744073709551616 := by
            have := Nat.div_le_self H (2 ^ k)
            generalize H / 2 ^ k = z at *
            omega
          have HX : Hid (x = ((H / 2 ^ k : Nat) : Int)) := hx
          rw [← hx]
          clear hx
          have hki : (k : Int) < 64 := by omega
          go_wp2_with (first | (at_builtin; refine wpList_append_own _ rfl _ _ 49 rfl w.heap.size 3 i0 (.int .i64 0) 1 8 Tryd.underlying49 hi hz0 hz1 hz2 rfl (by decide) _ _ _ rfl (hown2.alloc _) ⟨wr.heap.size, 0, none⟩ 1 1 [.int .i64 (x % 2)] rfl rfl ?e1 ?e2 ?e3 ?e4 ?e5 ?_))
          case e1 =>
            intro j u hj
            match j, hj with
            | 0, hj => simp at hj; subst hj; simp [Addr.add]
          case e2 => intro u hu; simp at hu; subst hu; rfl
          case e3 => unfold maxLen; omega
          case e4 => omega
          case e5 => simp; omega
          intro v' w1 hown' hgrow _
          obtain ⟨ho2, hb2⟩ := grow_one (k := 64 + k) (xs := P ++ bitsL H k) (x := x % 2) (by omega) hb3 hs3 (by simpa using hown2) (by simpa using hown') hgrow
          clear hown2 hown' hgrow
          go_wp2
          go_roundw
          case measure => simp [intOf]; omega
          case rel =>
            have e1 : x % 2 = ((bitN H k : Nat) : Int) := by rw [HX.out]; unfold bitN; omega
            have e2 : x / 2 = ((H / 2 ^ (k + 1) : Nat) : Int) := by rw [HX.out, Nat.pow_succ, ← Nat.div_div_eq_div_mul]; omega
            refine ⟨k + 1, by omega, by go_num, by rw [← e2], ?_, hb2⟩
            rw [e1] at ho2
            rw [bitsL, ← List.append_assoc, ← Nat.add_assoc]
            exact ho2
        · obtain rfl : k = 64 := by omega
          go_wp2
          go_ret
          refine ⟨_, rfl, ?_, hb3⟩
          rw [show (128 : Nat) = 64 + 64 from rfl, bitsL_high hL 64 (by omega), HP.out]
          exact hown2
/-- Block g holds the first n bits of a, one a cell. -/
def BitRow (w : World) (g n a : Nat) : Prop := g < w.heap.size ∧ ∀ i, i < n → w.cell? ⟨g, i, none⟩ = some (.int .i64 ((bitN a i : Nat) : Int))
theorem BitRow.below {W w1 : World} {g n a : Nat} (x : BitRow W g n a) (hb : Below W.heap.size W w1) : BitRow w1 g n a :=
  ⟨Nat.lt_of_lt_of_le x.1 hb.size, fun i hi => (hb.cell (p := ⟨g, i, none⟩) x.1).trans (x.2 i hi)⟩
theorem BitRow.alloc {W : World} {g n a : Nat} (x : BitRow W g n a) (o : Obj) : BitRow (W.alloc o) g n a :=
  ⟨by have := x.1; simp; omega, fun i hi => (World.cell?_alloc_lt _ _ _ x.1).trans (x.2 i hi)⟩
theorem BitRow.drew {W : World} {g n a : Nat} (x : BitRow W g n a) : BitRow W.drew g n a := x

theorem bitRow_of {w : World} {base n a : Nat} {v : Value} (hn : 0 < n) (h : w.ownsRow base 3 1 v n ((bitsL a n).map (Value.int .i64))) :
    ∃ g cap, v = .slice (some ⟨g, 0, none⟩) n cap ∧ base ≤ g ∧ n ≤ cap ∧ cap ≤ maxLen ∧ BitRow w g n a := by
  have h' := h
  obtain ⟨hl, ⟨rfl, h0⟩ | ⟨g, cap, cur, rfl, hg, hh, hc, hm, hs, ht⟩⟩ := h'
  · omega
  · refine ⟨g, cap, rfl, hg, hc, hm, ?_, fun i hi => ?_⟩
    · exact (h.lt g rfl).2
    · rw [World.ownsRow.cellAt h i (by omega), List.getElem?_map]
      have := bitsL_getD a n i hi
      rw [List.getD_eq_getElem?_getD] at this
      have hlt : i < (bitsL a n).length := by rw [bitsL_length]; exact hi
      rw [List.getElem?_eq_getElem hlt] at this ⊢
      simp only [Option.getD_some] at this
      simp [this]

/-- Bits: the number's 128 bits in a row of the call's own. -/
theorem bits_c {ah al : Int} {a : Nat} (ha : IsNum ah al a) (w : World) :
    Calls Tryd.prog 41 #[nv ah al] w fun e w' => ∃ g cap, e = .returned (.slice (some ⟨g, 0, none⟩) 128 cap) ∧ w.heap.size ≤ g ∧ BitRow w' g 128 a ∧ Below w.heap.size w w' := by
  obtain ⟨H, L, rfl, rfl, hH, hL, rfl⟩ := ha.nat
  refine (bits_w H L hH hL w).mono ?_
  rintro e w' ⟨v, rfl, ho, hb⟩
  obtain ⟨g, cap, rfl, hg, _, _, hr⟩ := bitRow_of (by omega) ho
  exact ⟨g, cap, rfl, hg, hr, hb⟩

end Go.Proofs.YtgbpnekinbdadaaDoor
