/-
  The walk of AddrSteps, where the law's own examples hold.
-/
import Derived.Test.YtdjpigjllienoaaDoorAddrD
import Derived.Test.YtdjpigjllienoaaDoorHex
namespace Go.Proofs.YtdjpigjllienoaaDoor
open Go.ChangeShapes Go.WideShapes Go.ChangeAt Go.RowKit
set_option linter.unusedVariables false
set_option linter.unusedSimpArgs false

theorem less_snoc : ∀ (x y : List UInt8) (u v : UInt8), x.length = y.length → Op.bytesLess (x ++ [u]) (y ++ [v]) = (Op.bytesLess x y || (x == y && decide (u < v)))
  | [], [], u, v, _ => by simp [Op.bytesLess]
  | a :: x, b :: y, u, v, h => by
    have ih := less_snoc x y u v (by simpa using h)
    simp only [List.cons_append, Op.bytesLess, ih]
    by_cases c : a = b
    · subst c; simp
    · have : (a == b) = false := by simpa using c
      simp [this]
  | [], _ :: _, _, _, h => by simp at h
  | _ :: _, [], _, _, h => by simp at h

/-- The first k bytes, as bytes. -/
def byP (a W k : Nat) : List UInt8 := (topP a W 8 k).map UInt8.ofNat

theorem byP_snoc (a W k : Nat) : byP a W (k + 1) = byP a W k ++ [UInt8.ofNat (a / 2 ^ (W - 8 * (k + 1)) % 256)] := by simp [byP, topP]

theorem ofNat_lt {x y : Nat} (hx : x < 256) (hy : y < 256) : (UInt8.ofNat x < UInt8.ofNat y) ↔ x < y := by
  rw [UInt8.lt_iff_toNat_lt, UInt8.toNat_ofNat', UInt8.toNat_ofNat']
  omega

theorem ofNat_eq {x y : Nat} (hx : x < 256) (hy : y < 256) : (UInt8.ofNat x = UInt8.ofNat y) ↔ x = y := by
  constructor
  · intro h
    have := congrArg UInt8.toNat h
    rw [UInt8.toNat_ofNat', UInt8.toNat_ofNat'] at this
    omega
  · intro h; rw [h]

theorem byP_len (a W k : Nat) : (byP a W k).length = k := by rw [byP, List.length_map, topP_length]

theorem order_bytes {a b W : Nat} (ha : a < 2 ^ W) (hb : b < 2 ^ W) : ∀ k, 8 * k ≤ W → Op.bytesLess (byP a W k) (byP b W k) = decide (a / 2 ^ (W - 8 * k) < b / 2 ^ (W - 8 * k)) ∧ ((byP a W k = byP b W k) ↔ a / 2 ^ (W - 8 * k) = b / 2 ^ (W - 8 * k))
  | 0, _ => by
    simp only [Nat.mul_zero, Nat.sub_zero, Nat.div_eq_of_lt ha, Nat.div_eq_of_lt hb]
    simp [byP, topP, Op.bytesLess]
  | k + 1, hk => by
    obtain ⟨i1, i2⟩ := order_bytes ha hb k (by omega)
    have e (x : Nat) : x / 2 ^ (W - 8 * k) = x / 2 ^ (W - 8 * (k + 1)) / 256 := by
      rw [Nat.div_div_eq_div_mul, show W - 8 * k = W - 8 * (k + 1) + 8 by omega, Nat.pow_add]
    rw [e a, e b] at i1 i2
    rw [byP_snoc, byP_snoc]
    generalize a / 2 ^ (W - 8 * (k + 1)) = x at *
    generalize b / 2 ^ (W - 8 * (k + 1)) = y at *
    have l := byP_len a W k
    have l' := byP_len b W k
    have mx : x % 256 < 256 := Nat.mod_lt _ (by decide)
    have my : y % 256 < 256 := Nat.mod_lt _ (by decide)
    have o := ofNat_lt mx my
    have q := ofNat_eq mx my
    constructor
    · rw [less_snoc _ _ _ _ (by rw [l, l']), i1, Bool.eq_iff_iff]
      simp only [Bool.or_eq_true, Bool.and_eq_true, decide_eq_true_eq, beq_iff_eq, i2, o]
      omega
    · constructor
      · intro h
        obtain ⟨h1, h2⟩ := List.append_inj' h rfl
        simp only [List.cons.injEq, and_true] at h2
        have := i2.1 h1
        have := q.1 h2
        omega
      · intro h
        rw [i2.2 (by omega), q.2 (by omega)]

theorem strP_bytes (a W k : Nat) : (strP (topP a W 8 k)).toList = byP a W k := by
  rw [Lib.toList_data, strP, strOfNums_data, List.map_map]
  rfl

/-- Order and equality of the bytes are those of the numbers. -/
theorem bytes_order {a b N : Nat} (ha : a < 2 ^ (8 * N)) (hb : b < 2 ^ (8 * N)) :
    Op.bytesLess (strP (topP a (8 * N) 8 N)).toList (strP (topP b (8 * N) 8 N)).toList = decide (a < b) ∧ ((strP (topP a (8 * N) 8 N)).toList == (strP (topP b (8 * N) 8 N)).toList) = decide (a = b) := by
  rw [strP_bytes, strP_bytes]
  have h := order_bytes ha hb N (Nat.le_refl _)
  simp only [Nat.sub_self, Nat.pow_zero, Nat.div_one] at h
  refine ⟨h.1, ?_⟩
  rw [Bool.eq_iff_iff, beq_iff_eq, decide_eq_true_eq]
  exact h.2

theorem okA_lt {v : Bool} {a N : Nat} (hN : widthA v = ((8 * N : Nat) : Int)) (ha : a < 340282366920938463463374607431768211456) (h : okA v a = true) : a < 2 ^ (8 * N) := by
  cases v
  · have : N = 4 := by simp [widthA] at hN; omega
    subst this
    simpa [okA] using h
  · have : N = 16 := by simp [widthA] at hN; omega
    subst this
    simpa using ha

set_option maxHeartbeats 3200000 in
theorem steps_walk {v : Bool} {ah al nh nl : Int} {a n : Nat} (ha : IsNum ah al a) (hn : IsNum nh nl n) (w : World) (hL : LW w)
    (aw : ∀ w, LW w → Calls Tryd.prog 7 #[] w fun e w' => e = .returned (.bool true) ∧ Below w.heap.size w w') :
    Calls Tryd.prog 6 #[av v ah al, nv nh nl] w fun e w' => e = .returned (.bool true) ∧ Below w.heap.size w w' := by
  have hz := hL.sz
  have Lx : ∀ W, Below w.heap.size w W → LW W := fun W hb => hL.of hb hz
  obtain ⟨u, h, l, c, hp⟩ := plusIs_ex v a n
  have PC := fun w' => plus_is ha hn hp w'
  clear hL
  go_enter Tryd.func6, Tryd.ntmps6
  go_wp2_with fail
  refine (aw _ (Lx _ (by repeat (first | with_reducible exact Below.refl _ _ | with_reducible refine Below.drew ?_ | with_reducible refine Below.alloc ?_ (by first | omega | (simp <;> omega)) _ | with_reducible refine Below.setCell ?_ (by first | omega | (simp <;> omega)) _)))).mono ?_
  rintro e w1 ⟨rfl, hb1⟩
  obtain ⟨hc1, hf1⟩ := bcell hb1
  have hz_w1_0 : w.heap.size < w1.heap.size   := (by have := hb1.size; first | omega | (simp at this; omega))
  have hz_w1_1 : w.heap.size + 1 < w1.heap.size   := (by have := hb1.size; first | omega | (simp at this; omega))
  clear aw Lx
  go_wp2_with fail
  refine (PC _).mono ?_
  rintro e w2 ⟨rfl, hb2⟩
  obtain ⟨hc2, hf2⟩ := bcell hb2
  have hz_w2_0 : w.heap.size < w2.heap.size   := (by have := hb2.size; first | omega | (simp at this; omega))
  have hz_w2_1 : w.heap.size + 1 < w2.heap.size   := (by have := hb2.size; first | omega | (simp at this; omega))
  clear PC
  rcases hp with ⟨h1, rfl, rfl, rfl, rfl⟩ | ⟨h1, h2, rfl, rfl, rfl, rfl⟩ | ⟨h1, h2, h3, hu, h4, rfl⟩
  · go_wp2
    go_ret
    exact ⟨by rfl, by repeat (first | with_reducible exact Below.refl _ _ | with_reducible refine Below.drew ?_ | with_reducible refine Below.alloc ?_ (by first | omega | (simp <;> omega)) _ | with_reducible refine Below.setCell ?_ (by first | omega | (simp <;> omega)) _ | with_reducible refine Below.trans ?_ (Below.mono hb2 (by first | omega | (simp <;> omega))) | with_reducible refine Below.trans ?_ (Below.mono hb1 (by first | omega | (simp <;> omega))))⟩
  · go_wp2
    go_ret
    exact ⟨by rfl, by repeat (first | with_reducible exact Below.refl _ _ | with_reducible refine Below.drew ?_ | with_reducible refine Below.alloc ?_ (by first | omega | (simp <;> omega)) _ | with_reducible refine Below.setCell ?_ (by first | omega | (simp <;> omega)) _ | with_reducible refine Below.trans ?_ (Below.mono hb2 (by first | omega | (simp <;> omega))) | with_reducible refine Below.trans ?_ (Below.mono hb1 (by first | omega | (simp <;> omega))))⟩
  · obtain rfl := hu.symm
    have MI : MinusIs v v (a + n) a nh nl 0 := Or.inr (Or.inr ⟨⟨h3, h1, rfl⟩, by omega, hn.cast (by omega), rfl⟩)
    have MC := fun w' => minus_is h4 ha MI w'
    obtain ⟨N, hN, hN2⟩ : ∃ N : Nat, widthA v = ((8 * N : Nat) : Int) ∧ (N = 4 ∨ N = 16) := by
      cases v
      · exact ⟨4, rfl, Or.inl rfl⟩
      · exact ⟨16, rfl, Or.inr rfl⟩
    have B1 := fun w' => bytes_w ha h1 w' N hN hN2
    have B2 := fun w' => bytes_w h4 h3 w' N hN hN2
    have o := bytes_order (okA_lt hN ha.lt h1) (okA_lt hN h2 h3)
    obtain ⟨X, hX⟩ : ∃ X, X = strP (topP a (8 * N) 8 N) := ⟨_, rfl⟩
    obtain ⟨Y, hY⟩ : ∃ Y, Y = strP (topP (a + n) (8 * N) 8 N) := ⟨_, rfl⟩
    rw [← hX, ← hY] at o
    rw [← hX] at B1
    rw [← hY] at B2
    obtain ⟨o1, o2⟩ := o
    have CC := fun w' => acmp_c (v := v) (u := v) ha h4 w'
    obtain ⟨k, hk⟩ : ∃ k, k = cmpA v v a (a + n) := ⟨_, rfl⟩
    rw [← hk] at CC
    have hk2 : k = if n = 0 then 0 else -1 := by
      rw [hk]
      unfold cmpA
      rw [if_pos rfl]
      by_cases h0 : n = 0
      · rw [if_pos h0]; exact cmpI_eq (by omega)
      · rw [if_neg h0]; exact cmpI_lt (by omega)
    clear hk hX hY hN hN2 ha hn h1 h2 h3 h4 MI
    go_wp2_with fail
    refine (MC _).mono ?_
    rintro e w3 ⟨rfl, hb3⟩
    obtain ⟨hc3, hf3⟩ := bcell hb3
    have hz_w3_0 : w.heap.size < w3.heap.size   := (by have := hb3.size; first | omega | (simp at this; omega))
    have hz_w3_1 : w.heap.size + 1 < w3.heap.size   := (by have := hb3.size; first | omega | (simp at this; omega))
    have hz_w3_2 : w2.heap.size < w3.heap.size   := (by have := hb3.size; first | omega | (simp at this; omega))
    clear MC
    go_wp2_with fail
    refine (B1 _).mono ?_
    rintro e w4 ⟨rfl, hb4⟩
    obtain ⟨hc4, hf4⟩ := bcell hb4
    have hz_w4_0 : w.heap.size < w4.heap.size   := (by have := hb4.size; first | omega | (simp at this; omega))
    have hz_w4_1 : w.heap.size + 1 < w4.heap.size   := (by have := hb4.size; first | omega | (simp at this; omega))
    have hz_w4_2 : w2.heap.size < w4.heap.size   := (by have := hb4.size; first | omega | (simp at this; omega))
    clear B1
    go_wp2_with fail
    refine (B2 _).mono ?_
    rintro e w5 ⟨rfl, hb5⟩
    obtain ⟨hc5, hf5⟩ := bcell hb5
    have hz_w5_0 : w.heap.size < w5.heap.size   := (by have := hb5.size; first | omega | (simp at this; omega))
    have hz_w5_1 : w.heap.size + 1 < w5.heap.size   := (by have := hb5.size; first | omega | (simp at this; omega))
    have hz_w5_2 : w2.heap.size < w5.heap.size   := (by have := hb5.size; first | omega | (simp at this; omega))
    clear B2
    go_wp2_with fail
    refine (CC _).mono ?_
    rintro e w6 ⟨k', rfl, hkk, hb6⟩
    clear CC
    have o3 : Hid (Op.bytesLess X.toList Y.toList = decide (a < a + n)) := o1
    have o4 : Hid ((X.toList == Y.toList) = decide (a = a + n)) := o2
    subst hkk
    clear o1 o2
    by_cases h0 : n = 0
    · rw [if_pos h0] at hk2
      subst hk2
      have o1 := o3.out
      have o2 := o4.out
      rw [decide_eq_false (by omega)] at o1
      rw [decide_eq_true (by omega)] at o2
      clear o3 o4 h0
      go_wp2
      go_ret
      exact ⟨by rfl, by repeat (first | with_reducible exact Below.refl _ _ | with_reducible refine Below.drew ?_ | with_reducible refine Below.alloc ?_ (by first | omega | (simp <;> omega)) _ | with_reducible refine Below.setCell ?_ (by first | omega | (simp <;> omega)) _ | with_reducible refine Below.trans ?_ (Below.mono hb6 (by first | omega | (simp <;> omega))) | with_reducible refine Below.trans ?_ (Below.mono hb5 (by first | omega | (simp <;> omega))) | with_reducible refine Below.trans ?_ (Below.mono hb4 (by first | omega | (simp <;> omega))) | with_reducible refine Below.trans ?_ (Below.mono hb3 (by first | omega | (simp <;> omega))) | with_reducible refine Below.trans ?_ (Below.mono hb2 (by first | omega | (simp <;> omega))) | with_reducible refine Below.trans ?_ (Below.mono hb1 (by first | omega | (simp <;> omega))))⟩
    · rw [if_neg h0] at hk2
      subst hk2
      have o1 := o3.out
      have o2 := o4.out
      rw [decide_eq_true (by omega)] at o1
      rw [decide_eq_false (by omega)] at o2
      clear o3 o4 h0
      go_wp2
      go_ret
      exact ⟨by rfl, by repeat (first | with_reducible exact Below.refl _ _ | with_reducible refine Below.drew ?_ | with_reducible refine Below.alloc ?_ (by first | omega | (simp <;> omega)) _ | with_reducible refine Below.setCell ?_ (by first | omega | (simp <;> omega)) _ | with_reducible refine Below.trans ?_ (Below.mono hb6 (by first | omega | (simp <;> omega))) | with_reducible refine Below.trans ?_ (Below.mono hb5 (by first | omega | (simp <;> omega))) | with_reducible refine Below.trans ?_ (Below.mono hb4 (by first | omega | (simp <;> omega))) | with_reducible refine Below.trans ?_ (Below.mono hb3 (by first | omega | (simp <;> omega))) | with_reducible refine Below.trans ?_ (Below.mono hb2 (by first | omega | (simp <;> omega))) | with_reducible refine Below.trans ?_ (Below.mono hb1 (by first | omega | (simp <;> omega))))⟩
end Go.Proofs.YtdjpigjllienoaaDoor
