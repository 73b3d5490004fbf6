/-
  What Spread of package carve returns, for every two addresses.
-/
import Derived.Test.YtmhnfgfdggjdhaaGreatDoorSpread2
namespace Go.Proofs.YtmhnfgfdggjdhaaGreatDoor
open Go.ChangeShapes Go.WideShapes Go.ChangeAt Go.RowKit
set_option linter.unusedVariables false
set_option linter.unusedSimpArgs false

theorem SpOut.none {B : Nat} {v : Bool} {W : Nat} {w w' : World} {val : Value} {cnt : Nat} {xs : List Value} (hown : w.ownsRow B 28 4 val cnt xs) (hb : Below w.heap.size w w') : SpOut B v W w val cnt xs [] val w' :=
  ⟨by simpa [cellsL] using own_kept hown hb, grown_of_below hb, Or.inl rfl⟩

theorem between_c {v : Bool} {ah al zh zl : Int} {a z W : Nat} (hW : widthA v = (W : Nat)) (ha : IsNum ah al a) (hz : IsNum zh zl z) (B : Nat) : ∀ (k n : Nat) (h l b : Int) (val : Value) (cnt : Nat) (xs : List Value) (w : World), IsNum h l n → okP v n b = true → behindP v b = k → w.ownsRow B 28 4 val cnt xs → B ≤ w.heap.size → cnt + (spL a z k n).length < 1000000 →
    Calls Tryz.prog 85 #[val, pv v h l b, av v ah al, av v zh zl] w fun e w' => ∃ val', e = .returned val' ∧ SpOut B v W w val cnt xs (spL a z k n) val' w' := by
  intro k
  induction k with
  | zero =>
    intro n h l b val cnt xs w hp hk hbk hown hB hcnt
    have el : lastN v n b = n := by unfold lastN; rw [hbk]; simp
    by_cases c : n < a ∨ z < n
    · rw [sp_none (k := 0) (by simpa using c)]
      refine (between_none hp ha hz hk val w (by rw [el]; omega)).mono ?_
      rintro e w' ⟨rfl, hb⟩
      exact ⟨_, rfl, SpOut.none hown hb⟩
    · have e1 : spL a z 0 n = [(n, behindP v b)] := by rw [hbk]; exact sp_all (by omega) (by simp; omega)
      rw [e1] at hcnt ⊢
      simp at hcnt
      exact between_all hW hp ha hz hk B val cnt xs w hown hB (by omega) (by omega) (by rw [el]; omega)
  | succ k ih =>
    intro n h l b val cnt xs w hp hk hbk hown hB hcnt
    have el : lastN v n b = n + (2 ^ (k + 1) - 1) := by unfold lastN; rw [hbk]
    have pp := pow_pos2 (k + 1)
    by_cases c : n + (2 ^ (k + 1) - 1) < a ∨ z < n
    · rw [sp_none c]
      refine (between_none hp ha hz hk val w (by rw [el]; omega)).mono ?_
      rintro e w' ⟨rfl, hb⟩
      exact ⟨_, rfl, SpOut.none hown hb⟩
    · by_cases d : a ≤ n ∧ n + (2 ^ (k + 1) - 1) ≤ z
      · have e1 : spL a z (k + 1) n = [(n, behindP v b)] := by rw [hbk]; exact sp_all d.1 d.2
        rw [e1] at hcnt ⊢
        simp at hcnt
        exact between_all hW hp ha hz hk B val cnt xs w hown hB (by omega) d.1 (by rw [el]; exact d.2)
      · have hbW : b < widthA v := by unfold behindP at hbk; omega
        obtain ⟨o1, o2, o3, o4⟩ := high_ok hk hbW hp.lt
        have up := behindP_up hbW
        have ek : behindP v (b + 1) = k := by omega
        have e2 : behindP v b - 1 = k := by omega
        obtain ⟨rh, rl, hr⟩ := IsNum.ex (n := n + 2 ^ (behindP v b - 1)) (Nat.lt_of_le_of_lt o4 (lastN_small hk hp.lt).1)
        rw [sp_part c d] at hcnt ⊢
        rw [List.length_append] at hcnt
        refine between_part hW hp ha hz hk B val cnt xs w hown hB hbW hr (by rw [el]; exact c) (by rw [el]; exact d) ?_ ?_
        · intro w1 ho hB1
          exact ih n h l (b + 1) val cnt xs w1 hp o1 ek ho hB1 (by omega)
        · intro val1 w1 ho hB1
          exact ih (n + 2 ^ k) rh rl (b + 1) val1 (cnt + (spL a z k n).length) (xs ++ cellsL v W (spL a z k n)) w1 (hr.cast (by rw [e2])) (by rw [← e2]; exact o2) ek ho hB1 (by omega)

/-- What Spread keeps. -/
def KA (w : World) (v : Bool) (ah al : Int) (u : Bool) (zh zl : Int) (W : World) : Prop :=
  (W.cell? ⟨w.heap.size, 0, none⟩ = some (.bool v) ∧ W.cell? ⟨w.heap.size, 1, none⟩ = some (.int .u64 ah) ∧ W.cell? ⟨w.heap.size, 2, none⟩ = some (.int .u64 al) ∧ W.cell? ⟨w.heap.size + 1, 0, none⟩ = some (.bool u) ∧ W.cell? ⟨w.heap.size + 1, 1, none⟩ = some (.int .u64 zh) ∧ W.cell? ⟨w.heap.size + 1, 2, none⟩ = some (.int .u64 zl)) ∧ Blk W w.heap.size #[.bool v, .int .u64 ah, .int .u64 al] 26 ∧ Blk W (w.heap.size + 1) #[.bool u, .int .u64 zh, .int .u64 zl] 26 ∧ Below w.heap.size w W

theorem KA.of {w W : World} {v : Bool} {ah al : Int} {u : Bool} {zh zl : Int} (x : Blk W w.heap.size #[.bool v, .int .u64 ah, .int .u64 al] 26) (y : Blk W (w.heap.size + 1) #[.bool u, .int .u64 zh, .int .u64 zl] 26) (z : Below w.heap.size w W) : KA w v ah al u zh zl W :=
  ⟨⟨x.cell 0, x.cell 1, x.cell 2, y.cell 0, y.cell 1, y.cell 2⟩, x, y, z⟩

theorem KA.start (w : World) (v : Bool) (ah al : Int) (u : Bool) (zh zl : Int) : KA w v ah al u zh zl ((w.alloc (.cells #[.bool v, .int .u64 ah, .int .u64 al] 26)).alloc (.cells #[.bool u, .int .u64 zh, .int .u64 zl] 26)) :=
  KA.of ((Blk.new _ _ _).alloc _) (Blk.newB _ _ _ _) (by repeat (first | with_reducible exact Below.refl _ _ | with_reducible refine Below.drew ?_ | with_reducible refine Below.alloc ?_ (by first | omega | (simp <;> omega)) _ | with_reducible refine Below.setCell ?_ (by first | omega | (simp <;> omega)) _))

theorem KA.below {w W w1 : World} {v : Bool} {ah al : Int} {u : Bool} {zh zl : Int} (s : KA w v ah al u zh zl W) (hb : Below W.heap.size W w1) : KA w v ah al u zh zl w1 := KA.of (s.2.1.below hb) (s.2.2.1.below hb) (s.2.2.2.trans (hb.mono s.2.2.2.size))

theorem KA.alloc {w W : World} {v : Bool} {ah al : Int} {u : Bool} {zh zl : Int} (s : KA w v ah al u zh zl W) (o : Obj) : KA w v ah al u zh zl (W.alloc o) := KA.of (s.2.1.alloc o) (s.2.2.1.alloc o) (s.2.2.2.alloc (Nat.le_of_lt s.2.1.lt) o)

set_option maxRecDepth 100000 in
set_option maxHeartbeats 800000 in
theorem spread_no {v u : Bool} {ah al zh zl : Int} {a z : Nat} (ha : IsNum ah al a) (hz : IsNum zh zl z) (hc : ¬ (okA v a = true ∧ okA u z = true ∧ v = u ∧ a ≤ z)) (w : World) :
    Calls Tryz.prog 45 #[av v ah al, av u zh zl] w fun e w' => e = .returned (.tuple #[.slice none 0 0, .int .i64 1]) ∧ Below w.heap.size w w' := by
  obtain ⟨dh, dl, c, hm, hcne⟩ : ∃ dh dl c : Int, MinusIs u v z a dh dl c ∧ ¬ c = 0 := by
    by_cases h : okA u z = true ∧ okA v a = true ∧ u = v
    · have : ¬ a ≤ z := fun q => hc ⟨h.2.1, h.1, h.2.2.symm, q⟩
      exact ⟨0, 0, 11, Or.inr (Or.inl ⟨h, by omega, rfl, rfl, rfl⟩), by decide⟩
    · exact ⟨0, 0, 1, Or.inl ⟨h, rfl, rfl, rfl⟩, by decide⟩
  have M : Hid (∀ w', Calls Tryz.prog 84 #[av u zh zl, av v ah al] w' fun e w1 => e = .returned (.tuple #[nv dh dl, .int .i64 c]) ∧ Below w'.heap.size w' w1) := fun w' => minus_is hz ha hm w'
  have K0 := KA.start w v ah al u zh zl
  clear ha hz hc hm
  go_enter Tryz.func45, Tryz.ntmps45
  go_wp2_with fail
  refine (M.out _).mono ?_
  rintro e w1 ⟨rfl, hb1⟩
  have B1 := (K0.below hb1).2.2.2
  have z1 := (K0.below hb1).2.1.lt
  clear M K0 hb1
  go_wp2
  refine bodyPost_ret (v := .tuple #[.slice none 0 0, .int .i64 1]) (by simp [results, Tryz.results45, go_sem]) rfl ⟨rfl, by repeat (first | with_reducible exact Below.refl _ _ | with_reducible refine Below.drew ?_ | with_reducible refine Below.alloc ?_ (by first | omega | (simp <;> omega)) _ | with_reducible refine Below.setCell ?_ (by first | omega | (simp <;> omega)) _ | with_reducible refine Below.trans ?_ (Below.mono B1 (by first | omega | (simp <;> omega))))⟩

set_option maxRecDepth 100000 in
set_option maxHeartbeats 1600000 in
theorem spread_ok {v : Bool} {ah al zh zl : Int} {a z W : Nat} (hW : widthA v = (W : Nat)) (ha : IsNum ah al a) (hz : IsNum zh zl z) (oa : okA v a = true) (oz : okA v z = true) (haz : a ≤ z) (w : World) :
    Calls Tryz.prog 45 #[av v ah al, av v zh zl] w fun e w' => ∃ val, e = .returned (.tuple #[val, .int .i64 0]) ∧ w'.ownsRow w.heap.size 28 4 val (spL a z W 0).length (cellsL v W (spL a z W 0)) ∧ Below w.heap.size w w' := by
  obtain ⟨dh, dl, hd⟩ := IsNum.ex (n := z - a) (Nat.lt_of_le_of_lt (Nat.sub_le _ _) hz.lt)
  have M : Hid (∀ w', Calls Tryz.prog 84 #[av v zh zl, av v ah al] w' fun e w1 => e = .returned (.tuple #[nv dh dl, .int .i64 0]) ∧ Below w'.heap.size w' w1) := fun w' => minus_is hz ha (Or.inr (Or.inr ⟨⟨oz, oa, rfl⟩, haz, hd, rfl⟩)) w'
  have hb0 : behindP v 0 = W := by unfold behindP; omega
  have n0 : IsNum 0 0 0 := ⟨by omega, by omega, by omega, by omega, rfl⟩
  have hW2 := width_le v
  have f0 : fitsB v a 0 = true := by
    unfold fitsB; rw [oa, decide_eq_true (by omega : (0 : Int) ≤ 0), decide_eq_true (by omega : (0 : Int) ≤ widthA v)]; rfl
  have haW : a < 2 ^ W := by
    cases v
    · obtain rfl : W = 32 := by have : widthA false = 32 := rfl; omega
      simpa [okA] using oa
    · obtain rfl : W = 128 := by have : widthA true = 128 := rfl; omega
      simpa using ha.lt
  have e0 : ofN v a 0 = 0 := by unfold ofN; rw [hb0, Nat.div_eq_of_lt haW, Nat.zero_mul]
  have k0 : okP v 0 0 = true := by
    have o0 : okA v 0 = true := by cases v <;> rfl
    unfold okP fitsB; rw [o0, decide_eq_true (by omega : (0 : Int) ≤ 0), decide_eq_true (by omega : (0 : Int) ≤ widthA v), decide_eq_true (Nat.zero_mod _)]; rfl
  have O : Hid (∀ w', Calls Tryz.prog 48 #[av v ah al, .int .i64 0] w' fun e w1 => e = .returned (.tuple #[pv v 0 0 0, .int .i64 0]) ∧ Below w'.heap.size w' w1) := fun w' => of_ok ha f0 (n0.cast e0.symm) w'
  have ln := sp_length (a := a) (z := z) (k := W) (n := 0)
  have A : Hid (∀ w', w.heap.size ≤ w'.heap.size → Calls Tryz.prog 85 #[.slice none 0 0, pv v 0 0 0, av v ah al, av v zh zl] w' fun e w1 => ∃ val, e = .returned val ∧ SpOut w.heap.size v W w' (.slice none 0 0) 0 [] (spL a z W 0) val w1) := fun w' hs => between_c hW ha hz w.heap.size W 0 0 0 0 (.slice none 0 0) 0 [] w' n0 k0 hb0 (World.ownsRow_nil _ _ _ _) hs (by omega)
  have K0 := KA.start w v ah al v zh zl
  clear ha hz oa oz haz hd hb0 n0 hW2 f0 haW e0 k0 ln hW
  go_enter Tryz.func45, Tryz.ntmps45
  go_wp2_with fail
  refine (M.out _).mono ?_
  rintro e w1 ⟨rfl, hb1⟩
  have K1 := (K0.below hb1).alloc (.cells #[.int .u64 dh, .int .u64 dl] 24)
  have F := K1.1
  clear M K0 hb1
  go_wp2_with fail
  refine (O.out _).mono ?_
  rintro e w2 ⟨rfl, hb2⟩
  have K2 := (K1.below hb2).alloc (.cells #[.bool v, .int .u64 0, .int .u64 0, .int .i64 0] 28)
  replace F := K2.1
  have B2 := K2.2.2.2
  have J := A.out _ B2.size
  clear O K1 hb2 A
  go_wp2_with fail
  refine J.mono ?_
  rintro e w3 ⟨val, rfl, hS⟩
  have hB : Below w.heap.size w w3 := B2.trans ⟨hS.2.1.os, hS.2.1.tape, hS.2.1.output, hS.2.1.size, fun k hk => hS.2.1.block k (Nat.lt_of_lt_of_le hk B2.size) (by simp [Value.ownBlock])⟩
  have hO : w3.ownsRow w.heap.size 28 4 val (spL a z W 0).length (cellsL v W (spL a z W 0)) := by simpa using hS.1
  have HB : Hid _ := hB
  have HO : Hid _ := hO
  clear J hS F K2 B2 hB hO
  go_wp2
  refine bodyPost_ret (v := .tuple #[val, .int .i64 0]) (by simp [results, Tryz.results45, go_sem]) rfl ⟨_, rfl, HO.out, HB.out⟩
end Go.Proofs.YtmhnfgfdggjdhaaGreatDoor
