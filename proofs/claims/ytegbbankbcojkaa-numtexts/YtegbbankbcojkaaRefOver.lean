/-
  The reference's quotient and what is left, bit by bit.
-/
import Derived.Test.YtegbbankbcojkaaRefTimes
import Derived.Test.YtegbbankbcojkaaRefSub
import Derived.Test.YtegbbankbcojkaaRefCmp
namespace Go.Proofs.Ytegbbankbcojkaa
open Go.ChangeShapes Go.WideShapes Go.ChangeAt Go.RowKit
set_option linter.unusedVariables false
set_option linter.unusedSimpArgs false

/-- Block g holds the bits of q from bit c on, and noughts below. -/
def QRow (w : World) (g q c : Nat) : Prop := g < w.heap.size ∧ (∀ j, j < 128 → w.cell? ⟨g, j, none⟩ = some (.int .i64 ((if c ≤ j then bitN q j else 0 : Nat) : Int))) ∧ ∀ j, w.frozen? ⟨g, j, none⟩ = false
theorem QRow.below {W w1 : World} {g q c : Nat} (x : QRow W g q c) (hb : Below W.heap.size W w1) : QRow w1 g q c :=
  ⟨Nat.lt_of_lt_of_le x.1 hb.size, fun j hj => (hb.cell (p := ⟨g, j, none⟩) x.1).trans (x.2.1 j hj), fun j => (hb.frozen (p := ⟨g, j, none⟩) x.1).trans (x.2.2 j)⟩
theorem QRow.alloc {W : World} {g q c : Nat} (x : QRow W g q c) (o : Obj) : QRow (W.alloc o) g q c :=
  ⟨by have := x.1; simp; omega, fun j hj => (World.cell?_alloc_lt _ _ _ x.1).trans (x.2.1 j hj), fun j => (World.frozen?_alloc_old _ _ _ (Nat.ne_of_lt x.1)).trans (x.2.2 j)⟩
theorem QRow.drew {W : World} {g q c : Nat} (x : QRow W g q c) : QRow W.drew g q c := x
theorem QRow.far1 {w : World} {g q c : Nat} {p : Addr} {u : Value} (x : QRow w g q c) (hc : p.block ≠ g) : QRow (w.setCell p u) g q c :=
  ⟨by have := x.1; simpa [World.setCell] using this, fun j hj => by
    rw [World.cell?_setCell_other _ _ _ _ (fun e => hc (by rw [e])), x.2.1 j hj], fun j => by rw [World.frozen?_setCell]; exact x.2.2 j⟩
theorem QRow.one {w : World} {g q d : Nat} (x : QRow w g q (d + 1)) (hd : d < 128) (h1 : bitN q d = 1) : QRow (w.setCell ⟨g, d, none⟩ (.int .i64 1)) g q d :=
  ⟨by have := x.1; simpa [World.setCell] using this, fun j hj => by
    by_cases e : j = d
    · subst e
      rw [World.cell?_setCell_same' _ _ _ (by rw [x.2.1 j hj]; rfl), if_pos (Nat.le_refl _), h1]; rfl
    · rw [World.cell?_setCell_other _ _ _ _ (by simp [Ne.symm e]), x.2.1 j hj]
      by_cases c : d ≤ j
      · rw [if_pos c, if_pos (by omega)]
      · rw [if_neg c, if_neg (by omega)], fun j => by rw [World.frozen?_setCell]; exact x.2.2 j⟩
theorem QRow.nought {w : World} {g q d : Nat} (x : QRow w g q (d + 1)) (h1 : bitN q d = 0) : QRow w g q d :=
  ⟨x.1, fun j hj => by
    rw [x.2.1 j hj]
    by_cases e : j = d
    · subst e; rw [if_neg (by omega), if_pos (Nat.le_refl _), h1]
    · by_cases c : d ≤ j
      · rw [if_pos c, if_pos (by omega)]
      · rw [if_neg c, if_neg (by omega)], x.2.2⟩
theorem BitRow.far1 {w : World} {g n a : Nat} {p : Addr} {u : Value} (x : BitRow w g n a) (hc : p.block ≠ g) : BitRow (w.setCell p u) g n a :=
  ⟨by have := x.1; simpa [World.setCell] using this, fun i hi => by rw [World.cell?_setCell_other _ _ _ _ (fun e => hc (by rw [e])), x.2 i hi]⟩
theorem Own.far1 {w : World} {b : Nat} {h l : Int} {p : Addr} {u : Value} (x : Own w b h l) (hc : p.block ≠ b) : Own (w.setCell p u) b h l :=
  ⟨⟨by rw [World.cell?_setCell_other _ _ _ _ (fun e => hc (by rw [e]))]; exact x.1.1, by rw [World.cell?_setCell_other _ _ _ _ (fun e => hc (by rw [e]))]; exact x.1.2.1, by have := x.1.2.2; simpa [World.setCell] using this⟩,
    by rw [World.frozen?_setCell]; exact x.2.1, by rw [World.frozen?_setCell]; exact x.2.2⟩
theorem Own.lo {w : World} {b : Nat} {h l l' : Int} (x : Own w b h l) : Own (w.setCell ⟨b, 1, none⟩ (.int .u64 l')) b h l' :=
  ⟨⟨by rw [World.cell?_setCell_other _ _ _ _ (by simp)]; exact x.1.1, by rw [World.cell?_setCell_same' _ _ _ (by rw [x.1.2.1]; rfl)], by have := x.1.2.2; simpa [World.setCell] using this⟩,
    by rw [World.frozen?_setCell]; exact x.2.1, by rw [World.frozen?_setCell]; exact x.2.2⟩

/-- What the loop keeps. -/
def OS (w : World) (gx a bo bl q c : Nat) (lh ll : Int) (wr : World) : Prop :=
  Own wr bl lh ll ∧ Own wr (w.heap.size + 1) 0 0 ∧ BitRow wr gx 128 a ∧ QRow wr bo q c ∧ Below w.heap.size w wr
theorem OS.below {w W w1 : World} {gx a bo bl q c : Nat} {lh ll : Int} (s : OS w gx a bo bl q c lh ll W) (hb : Below W.heap.size W w1) : OS w gx a bo bl q c lh ll w1 :=
  ⟨s.1.below hb, s.2.1.below hb, s.2.2.1.below hb, s.2.2.2.1.below hb, s.2.2.2.2.trans (hb.mono s.2.2.2.2.size)⟩
theorem OS.drew {w W : World} {gx a bo bl q c : Nat} {lh ll : Int} (s : OS w gx a bo bl q c lh ll W) : OS w gx a bo bl q c lh ll W.drew :=
  ⟨s.1.drew, s.2.1.drew, s.2.2.1.drew, s.2.2.2.1.drew, s.2.2.2.2.drew⟩
theorem OS.put {w W : World} {gx a bo bl q c : Nat} {lh ll rh rl : Int} (s : OS w gx a bo bl q c lh ll W) (c1 : w.heap.size + 1 < bl) (c2 : gx ≠ bl) (c3 : bo ≠ bl) :
    OS w gx a bo bl q c rh rl ((W.setCell ⟨bl, 0, none⟩ (.int .u64 rh)).setCell ⟨bl, 1, none⟩ (.int .u64 rl)) :=
  ⟨s.1.put, s.2.1.far (by omega), s.2.2.1.far c2, (s.2.2.2.1.far1 (Ne.symm c3)).far1 (Ne.symm c3), (s.2.2.2.2.setCell (by show _ ≤ bl; omega) _).setCell (by show _ ≤ bl; omega) _⟩
theorem OS.lo {w W : World} {gx a bo bl q c : Nat} {lh ll rl : Int} (s : OS w gx a bo bl q c lh ll W) (c1 : w.heap.size + 1 < bl) (c2 : gx ≠ bl) (c3 : bo ≠ bl) :
    OS w gx a bo bl q c lh rl (W.setCell ⟨bl, 1, none⟩ (.int .u64 rl)) :=
  ⟨s.1.lo, s.2.1.far1 (by show bl ≠ _; omega), s.2.2.1.far1 (Ne.symm c2), s.2.2.2.1.far1 (Ne.symm c3), s.2.2.2.2.setCell (by show _ ≤ bl; omega) _⟩
theorem OS.one {w W : World} {gx a bo bl q d : Nat} {lh ll : Int} (s : OS w gx a bo bl q (d + 1) lh ll W) (hd : d < 128) (h1 : bitN q d = 1) (c1 : w.heap.size + 1 < bo) (c2 : gx ≠ bo) (c3 : bo ≠ bl) :
    OS w gx a bo bl q d lh ll (W.setCell ⟨bo, d, none⟩ (.int .i64 1)) :=
  ⟨s.1.far1 c3, s.2.1.far1 (by show bo ≠ _; omega), s.2.2.1.far1 (Ne.symm c2), s.2.2.2.1.one hd h1, s.2.2.2.2.setCell (by show _ ≤ bo; omega) _⟩
theorem OS.nought {w W : World} {gx a bo bl q d : Nat} {lh ll : Int} (s : OS w gx a bo bl q (d + 1) lh ll W) (h1 : bitN q d = 0) : OS w gx a bo bl q d lh ll W :=
  ⟨s.1, s.2.1, s.2.2.1, s.2.2.2.1.nought h1, s.2.2.2.2⟩

/-- One digit of the long division. -/
theorem digit_step {m P L Q x : Nat} (hm : 0 < m) (dm : m * Q + L = P) (lt : L < m) (b : x ≤ 1) :
    (m ≤ 2 * L + x → (2 * P + x) / m % 2 = 1 ∧ (2 * P + x) % m = 2 * L + x - m) ∧ (¬ m ≤ 2 * L + x → (2 * P + x) / m % 2 = 0 ∧ (2 * P + x) % m = 2 * L + x) := by
  have s : 2 * P + x = m * (2 * Q) + (2 * L + x) := by rw [← dm, Nat.mul_add, Nat.mul_left_comm]; omega
  constructor
  · intro c
    have s2 : 2 * P + x = m * (2 * Q + 1) + (2 * L + x - m) := by rw [Nat.mul_add, Nat.mul_one]; omega
    have r : 2 * L + x - m < m := by omega
    have e1 : (2 * P + x) / m = 2 * Q + 1 := by rw [s2, Nat.mul_add_div hm, Nat.div_eq_of_lt r, Nat.add_zero]
    have e2 : (2 * P + x) % m = 2 * L + x - m := by rw [s2, Nat.mul_add_mod, Nat.mod_eq_of_lt r]
    exact ⟨by rw [e1]; omega, e2⟩
  · intro c
    have r : 2 * L + x < m := by omega
    have e1 : (2 * P + x) / m = 2 * Q := by rw [s, Nat.mul_add_div hm, Nat.div_eq_of_lt r, Nat.add_zero]
    have e2 : (2 * P + x) % m = 2 * L + x := by rw [s, Nat.mul_add_mod, Nat.mod_eq_of_lt r]
    exact ⟨by rw [e1]; omega, e2⟩

theorem over_step (a m d : Nat) (m0 : 0 < m) :
    (m ≤ 2 * (a / 2 ^ (d + 1) % m) + bitN a d → bitN (a / m) d = 1 ∧ a / 2 ^ d % m = 2 * (a / 2 ^ (d + 1) % m) + bitN a d - m) ∧
    (¬ m ≤ 2 * (a / 2 ^ (d + 1) % m) + bitN a d → bitN (a / m) d = 0 ∧ a / 2 ^ d % m = 2 * (a / 2 ^ (d + 1) % m) + bitN a d) := by
  have h := half_up a d
  have b := bitN_le a d
  have e : a / m / 2 ^ d = a / 2 ^ d / m := by rw [Nat.div_div_eq_div_mul, Nat.div_div_eq_div_mul, Nat.mul_comm]
  have hq : bitN (a / m) d = a / 2 ^ d / m % 2 := by show a / m / 2 ^ d % 2 = _; rw [e]
  have dm := Nat.div_add_mod (a / 2 ^ (d + 1)) m
  have lt := Nat.mod_lt (a / 2 ^ (d + 1)) m0
  rw [hq, h]
  exact digit_step m0 dm lt b

def OverPost (a m : Nat) (w : World) (e : Ending) (w' : World) : Prop :=
  ∃ h l r, e = .returned (.tuple #[nv h l, .int .u64 r]) ∧ IsNum h l (a / m) ∧ Hid (r = (a % m : Nat)) ∧ Below w.heap.size w w'

set_option maxRecDepth 100000 in
set_option maxHeartbeats 4000000 in
theorem rover_w {ah al kk : Int} {a : Nat} (ha : IsNum ah al a) (k0 : 0 < kk) (k1 : kk < 18446744073709551616) (w : World) :
    Calls Try.prog 17 #[nv ah al, .int .u64 kk] w fun e w' => OverPost a kk.toNat w e w' := by
  obtain ⟨i0, hi, hz0, hz1, hz2⟩ := info_parts infoInt
  have hm : IsNum 0 kk kk.toNat := ⟨by omega, by omega, by omega, k1, by omega⟩
  obtain ⟨m, hmv⟩ : ∃ m : Nat, kk.toNat = m := ⟨_, rfl⟩
  rw [hmv] at hm
  rw [hmv]
  have m64 : m < 18446744073709551616 := by omega
  have m0 : 0 < m := by omega
  clear hmv
  have la := ha.lt
  have kz : (kk == 0) = false := by simp; omega
  go_enter Try.func17, Try.ntmps17
  go_wp2_with fail
  have R : Own ((w.alloc (.cells #[.int .u64 ah, .int .u64 al] 24)).alloc (.cells #[.int .u64 0, .int .u64 0] 24)) (w.heap.size + 1) 0 0 := by simpa using Own.new (w.alloc (.cells #[.int .u64 ah, .int .u64 al] 24)) 0 0 24
  refine (bits_c ha _).mono ?_
  rintro e w1 ⟨gx, cx, rfl, gx0, X, hb1⟩
  have hB1 : Below w.heap.size w w1 := by repeat (first | with_reducible exact Below.refl _ _ | with_reducible refine Below.drew ?_ | with_reducible refine Below.alloc ?_ (by first | omega | (simp <;> omega)) _ | with_reducible refine Below.setCell ?_ (by first | omega | (simp <;> omega)) _ | with_reducible refine Below.trans ?_ (Below.mono hb1 (by first | omega | (simp <;> omega))))
  replace R := R.below hb1
  clear hb1 gx0
  go_wp2_with (at_make; refine wpList_make_full _ rfl _ _ 49 rfl w1.heap.size 3 i0 (.int .i64 0) 1 Try.underlying49 hi hz0 hz1 _ _ _ _ 128 rfl rfl rfl rfl ?b2 ?b3 ?b4 ?_)
  case b2 => rw [hz2]; omega
  case b3 => unfold maxLen; omega
  case b4 => omega
  intro w2 hown hgrow
  go_wp2_with fail
  have T0 : OS w gx a w1.heap.size w2.heap.size (a / m) 128 0 0 (w2.alloc (.cells #[.int .u64 0, .int .u64 0] 24)) := by
    have hb12 : Below w1.heap.size w1 w2 := (Below.refl _ _).grown hgrow (by omega) (fun k h => by cases h)
    refine ⟨Own.new _ _ _ _, (R.below hb12).alloc _, (X.below hb12).alloc _, QRow.alloc ⟨?_, fun j hj => ?_, fun j => ?_⟩ _, (hB1.trans (hb12.mono hB1.size)).alloc (Nat.le_trans hB1.size hb12.size) _⟩
    · exact (hown.lt w1.heap.size rfl).2
    · rw [World.ownsRow.cellAt hown j (by omega), if_neg (by omega), toList_madeCells_one, List.getElem?_replicate, if_pos (by omega)]
      rfl
    · exact World.ownsRow.frozenAt hown j
  have hs12 : w1.heap.size < w2.heap.size := (hown.lt w1.heap.size rfl).2
  have d1 : w.heap.size + 1 < w1.heap.size := R.1.2.2
  have d2 : gx < w1.heap.size := X.1
  clear R X hB1 hown hgrow
  have q128 : a / m < 340282366920938463463374607431768211456 := Nat.lt_of_le_of_lt (Nat.div_le_self _ _) la
  go_loopw [9] (fun t wr => ∃ (c : Nat) (i lh ll : Int), t = .int .i64 i ∧ Hid (i = (c : Int) - 1) ∧ -1 ≤ i ∧ i ≤ 127 ∧ IsNum lh ll (a / 2 ^ c % m) ∧ OS w gx a w1.heap.size w2.heap.size (a / m) c lh ll wr) (fun t _ => (intOf t + 1).toNat)
  case atStart =>
    refine ⟨128, 127, 0, 0, rfl, rfl, by omega, by omega, ?_, T0⟩
    rw [show 2 ^ 128 = 340282366920938463463374607431768211456 by decide, Nat.div_eq_of_lt la, Nat.zero_mod]
    exact ⟨by omega, by omega, by omega, by omega, by omega⟩
  case round =>
    clear T0
    obtain ⟨c, i, lh, ll, rfl, HI, j0, j1, hl, S⟩ := hrel
    by_cases hlt : 0 ≤ i
    · have hii := HI.out
      obtain ⟨d, rfl⟩ : ∃ d, c = d + 1 := ⟨c - 1, by omega⟩
      have st := over_step a m d m0
      have Lm := Nat.mod_lt (a / 2 ^ (d + 1)) m0
      have bl := bitN_le a d
      obtain ⟨L, hL⟩ : ∃ L, a / 2 ^ (d + 1) % m = L := ⟨_, rfl⟩
      rw [hL] at hl st Lm
      obtain ⟨x, hx⟩ : ∃ x : Nat, bitN a d = x := ⟨_, rfl⟩
      rw [hx] at st bl
      obtain ⟨sh, sl, hs⟩ := IsNum.ex (n := 2 * L) (by omega)
      have C1 : Hid (∀ w, Calls Try.prog 36 #[nv lh ll, .int .i64 1] w fun e w' => e = .returned (nv sh sl) ∧ Below w.heap.size w w') := fun w => by
        refine (rshift_c hl (by omega : (0 : Int) ≤ 1) (by omega) w).mono ?_
        rintro e w' ⟨h, l, rfl, hn', hb'⟩
        obtain ⟨rfl, rfl⟩ := (hn'.cast (show L * 2 ^ (1 : Int).toNat % 340282366920938463463374607431768211456 = 2 * L by rw [show (1 : Int).toNat = 1 from rfl, Nat.mod_eq_of_lt (by omega)]; omega)).uniq hs
        exact ⟨rfl, hb'⟩
      have s0 := hs.l0; have s1 := hs.l1; have s2 := hs.eq
      have hs' : IsNum sh (sl + (x : Int)) (2 * L + x) := ⟨hs.h0, hs.h1, by omega, by omega, by omega⟩
      obtain ⟨n, hn⟩ : ∃ n : Int, n = cmpI ((2 * L + x : Nat) : Int) (m : Int) := ⟨_, rfl⟩
      have C2 : Hid (∀ w, Calls Try.prog 13 #[nv sh (sl + (x : Int)), nv 0 kk] w fun e w' => e = .returned (.int .i64 n) ∧ Below w.heap.size w w') := fun w => by
        refine (rcmp_c hs' hm w).mono ?_
        rintro e w' ⟨m', rfl, hm', hb'⟩
        exact ⟨by rw [hm'.out, hn], hb'⟩
      obtain ⟨⟨l0, l1, l2⟩, p0, p1⟩ := id S.1
      have bx : x ≤ 1 := bl
      have cx1 : ∀ wz, OS w gx a w1.heap.size w2.heap.size (a / m) (d + 1) sh sl wz → wz.cell? ⟨gx, i.toNat, none⟩ = some (.int .i64 (x : Int)) := fun wz sz => by
        rw [sz.2.2.1.2 i.toNat (by omega), show i.toNat = d by omega, hx]
      have CX : Hid (∀ wz, OS w gx a w1.heap.size w2.heap.size (a / m) (d + 1) sh sl wz → wz.cell? ⟨gx, i.toNat, none⟩ = some (.int .i64 (x : Int))) := cx1
      have sx : sl + (x : Int) < 18446744073709551616 := hs'.l1
      have ne1 : gx ≠ w2.heap.size := by omega
      have ne2 : w1.heap.size ≠ w2.heap.size := by omega
      have dlt : d < 128 := by omega
      have HD : Hid (i = (d : Int)) := by show _ = _; omega
      clear hl hL hx cx1 s2 hii HI
      go_wp2_with fail
      refine (C1.out _).mono ?_
      rintro e w4 ⟨rfl, hb4⟩
      replace S := (S.below hb4)
      clear l0 l1 l2 p0 p1 hb4
      obtain ⟨⟨l0, l1, l2⟩, p0, p1⟩ := id S.1
      go_upto_region 10 with fail
      have S5 := S.put (rh := sh) (rl := sl) (by omega : w.heap.size + 1 < w2.heap.size) ne1 ne2
      have cx2 := CX.out _ S5
      obtain ⟨⟨t0, t1, t2⟩, u0, u1⟩ := id S5.1
      clear l0 l1 l2 p0 p1 S C1
      go_region
      go_wp2_with fail
      have S6 := S5.lo (rl := sl + (x : Int)) (by omega : w.heap.size + 1 < w2.heap.size) ne1 ne2
      clear t0 t1 t2 u0 u1 cx2 CX S5
      refine (C2.out _).mono ?_
      rintro e w7 ⟨rfl, hb7⟩
      have S7 := S6.drew.below hb7
      clear S6 hb7 C2
      obtain ⟨⟨l0, l1, l2⟩, p0, p1⟩ := id S7.1
      by_cases hge : m ≤ 2 * L + x
      · obtain ⟨q1, r1⟩ := st.1 hge
        have n0 : 0 ≤ n := by
          rw [hn]
          rcases Nat.lt_or_eq_of_le hge with c | c
          · rw [cmpI_gt (by omega)]; omega
          · rw [cmpI_eq (by omega)]; omega
        obtain ⟨vh, vl, hv⟩ := IsNum.ex (n := 2 * L + x - m) (by omega)
        have C3 : Hid (∀ w, Calls Try.prog 11 #[nv sh (sl + (x : Int)), nv 0 kk] w fun e w' => e = .returned (.tuple #[nv vh vl, .bool true]) ∧ Below w.heap.size w w') := fun w => by
          refine (rsub_c hs' hm w).mono ?_
          rintro e w' ⟨h, l, t', rfl, hn', ht', hb'⟩
          obtain ⟨rfl, rfl⟩ := (hn'.cast (show (2 * L + x + 340282366920938463463374607431768211456 - m) % 340282366920938463463374607431768211456 = 2 * L + x - m by omega)).uniq hv
          exact ⟨by rw [ht'.out, decide_eq_true hge], hb'⟩
        have hv' : IsNum vh vl (a / 2 ^ d % m) := hv.cast r1.symm
        have Q1 : Hid (bitN (a / m) d = 1) := q1
        clear hn st q1 r1 hge hv hs hs' s0 s1 sx Lm bl bx
        go_wp2_with fail
        refine (C3.out _).mono ?_
        rintro e w8 ⟨rfl, hb8⟩
        have S8 := S7.below hb8
        clear l0 l1 l2 p0 p1 S7 hb8
        obtain ⟨⟨l0, l1, l2⟩, p0, p1⟩ := id S8.1
        have S9 := (S8.put (rh := vh) (rl := vl) (by omega : w.heap.size + 1 < w2.heap.size) ne1 ne2)
        have EI : Hid (i.toNat = d) := by have := HD.out; show _ = _; omega
        have co : w8.cell? ⟨w1.heap.size, i.toNat, none⟩ = some (.int .i64 0) := by
          rw [S8.2.2.2.1.2.1 i.toNat (by have := HD.out; omega), if_neg (by have := EI.out; omega)]; rfl
        have fo := S8.2.2.2.1.2.2 i.toNat
        have ne3 : w2.heap.size ≠ w1.heap.size := by omega
        go_wp2
        go_roundw
        case measure => simp [intOf]; omega
        case rel =>
          refine ⟨d, i - 1, vh, vl, rfl, by have := HD.out; show _ = _; omega, by omega, by omega, hv', ?_⟩
          rw [EI.out]
          exact S9.one dlt Q1.out (by omega) (by omega) ne2
      · obtain ⟨q1, r1⟩ := st.2 hge
        have n0 : ¬ 0 ≤ n := by
          rw [hn, cmpI_lt (by omega)]; omega
        have nd : decide (0 ≤ n) = false := by simpa using n0
        have hv' : IsNum sh (sl + (x : Int)) (a / 2 ^ d % m) := hs'.cast r1.symm
        have Q1 : Hid (bitN (a / m) d = 0) := q1
        clear hn st q1 r1 hge hs hs' s0 s1 sx Lm bl bx
        go_wp2
        go_roundw
        case measure => simp [intOf]; omega
        case rel => exact ⟨d, i - 1, sh, sl + (x : Int), rfl, by have := HD.out; show _ = _; omega, by omega, by omega, hv', S7.nought Q1.out⟩
    · have hii := HI.out
      obtain rfl : c = 0 := by omega
      have hl' : IsNum lh ll (a % m) := hl.cast (by rw [Nat.pow_zero, Nat.div_one])
      have HR : Hid (ll = ((a % m : Nat) : Int)) := by
        have := Nat.mod_lt a m0
        obtain ⟨e0, e1⟩ := hl'.uniq (⟨by omega, by omega, by omega, by omega, by omega⟩ : IsNum 0 ((a % m : Nat) : Int) (a % m))
        exact e1
      have row : BitRow wr w1.heap.size 128 (a / m) := ⟨S.2.2.2.1.1, fun j hj => by rw [S.2.2.2.1.2.1 j hj, if_pos (Nat.zero_le _)]⟩
      have q2 : a / m < 2 ^ 128 := by rw [show 2 ^ 128 = 340282366920938463463374607431768211456 by decide]; exact q128
      obtain ⟨⟨l0, l1, l2⟩, p0, p1⟩ := id S.1
      obtain ⟨⟨r0, r1, r2⟩, t0, t1⟩ := id S.2.1
      have hBr := S.2.2.2.2
      have ne4 : w.heap.size + 1 ≠ w2.heap.size := by omega
      obtain ⟨gh, gl, hg⟩ := IsNum.ex q128
      have C4 : Hid (∀ W, BitRow W w1.heap.size 128 (a / m) → Calls Try.prog 31 #[.slice (some ⟨w1.heap.size, 0, none⟩) 128 128] W fun e w' => e = .returned (nv gh gl) ∧ Below W.heap.size W w') := fun W hW => by
        refine (num_w w1.heap.size 128 128 (a / m) (by omega) q2 (by omega) (by unfold maxLen; omega) W hW).mono ?_
        rintro e w' ⟨h, l, rfl, hn', hb'⟩
        obtain ⟨rfl, rfl⟩ := hn'.uniq hg
        exact ⟨rfl, hb'⟩
      clear hl hl' q2 hii HI
      go_wp2_with fail
      go_region_with (go_at_call 31; refine (C4.out _ ?_).mono ?_; exact row.drew; rintro e w7 ⟨rfl, hb7⟩; obtain ⟨hc7, hf7⟩ := bcell hb7; have S7 := S.drew.below hb7; obtain ⟨⟨m0', m1', m2'⟩, n0', n1'⟩ := id S7.1; obtain ⟨⟨o0', o1', o2'⟩, y0', y1'⟩ := id S7.2.1)
      all_goals
        have hB7 := S7.2.2.2.2
        go_wp2
        refine bodyPost_ret (v := .tuple #[nv gh gl, .int .u64 ll]) (by simp [results, Try.results17, go_sem, World.cell?_setCell_same', World.cell?_setCell_other, o0', o1']) rfl ?_
        unfold OverPost
        exact ⟨gh, gl, ll, rfl, hg, HR, by repeat (first | with_reducible exact Below.refl _ _ | with_reducible refine Below.drew ?_ | with_reducible refine Below.alloc ?_ (by first | omega | (simp <;> omega)) _ | with_reducible refine Below.setCell ?_ (by first | omega | (simp <;> omega)) _ | with_reducible refine Below.trans ?_ (Below.mono hB7 (by first | omega | (simp <;> omega))))⟩

theorem rover_c {ah al kk : Int} {a : Nat} (ha : IsNum ah al a) (k0 : 0 < kk) (k1 : kk < 18446744073709551616) (w : World) :
    Calls Try.prog 17 #[nv ah al, .int .u64 kk] w fun e w' => ∃ h l r, e = .returned (.tuple #[nv h l, .int .u64 r]) ∧ IsNum h l (a / kk.toNat) ∧ Hid (r = (a % kk.toNat : Nat)) ∧ Below w.heap.size w w' :=
  (rover_w ha k0 k1 w).mono fun e w' h => h

set_option maxHeartbeats 400000 in
theorem rover_zero (ah al : Int) (w : World) :
    Calls Try.prog 17 #[nv ah al, .int .u64 0] w fun e w' => e = .returned (.tuple #[nv 0 0, .int .u64 0]) ∧ Below w.heap.size w w' := by
  go_enter Try.func17, Try.ntmps17
  go_wp2
  refine bodyPost_ret (v := .tuple #[nv 0 0, .int .u64 0]) (by simp [results, Try.results17, go_sem]) rfl ⟨rfl, by repeat (first | with_reducible exact Below.refl _ _ | with_reducible refine Below.drew ?_ | with_reducible refine Below.alloc ?_ (by first | omega | (simp <;> omega)) _ | with_reducible refine Below.setCell ?_ (by first | omega | (simp <;> omega)) _)⟩
end Go.Proofs.Ytegbbankbcojkaa
