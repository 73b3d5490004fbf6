/-
  Texts PrRd, RfP of the proof.
-/
import Derived.Test.YtipjmmhlfmahbaaGreatDoorP20
import Derived.Test.YtipjmmhlfmahbaaGreatDoorP29
import Derived.Test.YtipjmmhlfmahbaaGreatDoorP13

namespace Go.Proofs.YtipjmmhlfmahbaaGreatDoor
open Go.ChangeShapes Go.WideShapes Go.ChangeAt Go.RowKit
set_option linter.unusedVariables false
set_option linter.unusedSimpArgs false

theorem cut1_at (c : UInt8) (Y : List UInt8) : ∀ X : List UInt8, c ∉ X → cutG [c] (X ++ c :: Y) = (X, Y, true)
  | [], _ => by simp [cutG, List.isPrefixOf]
  | b :: X, h => by
    have ih := cut1_at c Y X (fun m => h (List.mem_cons_of_mem _ m))
    have hb : (c == b) = false := by
      rw [beq_eq_false_iff_ne]
      exact fun e => h (by simp [e])
    show cutG [c] (b :: (X ++ c :: Y)) = _
    rw [cutG, if_neg (by simp [List.isPrefixOf, hb]), ih]

theorem cut1_no (c : UInt8) : ∀ X : List UInt8, c ∉ X → cutG [c] X = (X, [], false)
  | [], _ => rfl
  | b :: X, h => by
    have ih := cut1_no c X (fun m => h (List.mem_cons_of_mem _ m))
    have hb : (c == b) = false := by
      rw [beq_eq_false_iff_ne]
      exact fun e => h (by simp [e])
    rw [cutG, if_neg (by simp [List.isPrefixOf, hb]), ih]

/-- No two colons stand side by side. -/
def NoCC : List UInt8 → Bool
  | [] => true
  | a :: l => !(a == 58 && l.head? == some 58) && NoCC l

theorem pre2 (b : UInt8) (l : List UInt8) : ([58, 58] : List UInt8).isPrefixOf (b :: l) = (b == 58 && l.head? == some 58) := by
  have q : ∀ a : UInt8, ((58 : UInt8) == a) = (a == 58) := fun a => by
    rw [Bool.eq_iff_iff, beq_iff_eq, beq_iff_eq]
    exact eq_comm
  cases l with
  | nil =>
    show ((58 == b) && false) = (b == 58 && false)
    rw [Bool.and_false, Bool.and_false]
  | cons x r =>
    show ((58 == b) && ((58 == x) && true)) = (b == 58 && x == 58)
    rw [Bool.and_true, q, q]

theorem cut2_no : ∀ X : List UInt8, NoCC X = true → cutG [58, 58] X = (X, [], false)
  | [], _ => rfl
  | b :: X, h => by
    unfold NoCC at h
    rw [Bool.and_eq_true] at h
    have ih := cut2_no X h.2
    rw [cutG, if_neg (by rw [pre2, (Bool.not_eq_true' _).mp h.1]; exact Bool.false_ne_true), ih]

theorem cut2_at (Y : List UInt8) : ∀ X : List UInt8, NoCC (X ++ [58]) = true → cutG [58, 58] (X ++ 58 :: 58 :: Y) = (X, Y, true)
  | [], _ => by simp [cutG, List.isPrefixOf]
  | b :: X, h => by
    have h' : (!(b == 58 && (X ++ [58]).head? == some 58) && NoCC (X ++ [58])) = true := h
    rw [Bool.and_eq_true] at h'
    have ih := cut2_at Y X h'.2
    have e : (X ++ 58 :: 58 :: Y).head? = (X ++ [58]).head? := by cases X <;> rfl
    show cutG [58, 58] (b :: (X ++ 58 :: 58 :: Y)) = _
    rw [cutG, if_neg (by rw [pre2, e, (Bool.not_eq_true' _).mp h'.1]; exact Bool.false_ne_true), ih]

theorem noCC_skip (Z : List UInt8) : ∀ t : List UInt8, 58 ∉ t → NoCC (t ++ Z) = NoCC Z
  | [], _ => rfl
  | b :: t, h => by
    have ih := noCC_skip Z t (fun m => h (List.mem_cons_of_mem _ m))
    have hb : (b == 58) = false := by
      rw [beq_eq_false_iff_ne]
      exact fun e => h (by simp [e])
    show (!(b == 58 && (t ++ Z).head? == some 58) && NoCC (t ++ Z)) = _
    rw [hb, ih]
    rfl

theorem noCC_pre : ∀ (X Z : List UInt8), NoCC (X ++ Z) = true → NoCC X = true
  | [], _, _ => rfl
  | b :: X, Z, h => by
    have h' : (!(b == 58 && (X ++ Z).head? == some 58) && NoCC (X ++ Z)) = true := h
    rw [Bool.and_eq_true] at h'
    show (!(b == 58 && X.head? == some 58) && NoCC X) = true
    rw [noCC_pre X Z h'.2, Bool.and_true]
    cases X with
    | nil => simp
    | cons x r => exact h'.1

/-- The digits of base 16 of a number, as bytes. -/
abbrev hxL (n : Nat) : List UInt8 := (hexT n).data.toList

theorem hxL_is (n : Nat) : hxL n = (lowH n (hexLen n)).map fun x => UInt8.ofNat x.toNat := by
  unfold hxL hexT
  rw [strOfNums_data]

theorem dig_is : ∀ d : Fin 16, hexD (UInt8.ofNat (hexI ((d.val : Nat) : Int)).toNat).toNat = some d.val := by decide +kernel

theorem low_no (n : Nat) : ∀ j, (58 : UInt8) ∉ (lowH n j).map fun x => UInt8.ofNat x.toNat
  | 0 => by simp [lowH]
  | j + 1 => by
    have ih := low_no n j
    have h := dig_ne ⟨n / 16 ^ j % 16, Nat.mod_lt _ (by decide)⟩
    simp only [lowH, List.map_cons, List.mem_cons, not_or]
    exact ⟨fun e => h e.symm, ih⟩

theorem hx_no (n : Nat) : (58 : UInt8) ∉ hxL n := by rw [hxL_is]; exact low_no n _

theorem low_read (n : Nat) : ∀ (j acc : Nat), hexL acc ((lowH n j).map fun x => UInt8.ofNat x.toNat) = some (acc * 16 ^ j + n % 16 ^ j)
  | 0, acc => by simp [lowH, hexL, Nat.mod_one]
  | j + 1, acc => by
    have h := dig_is ⟨n / 16 ^ j % 16, Nat.mod_lt _ (by decide)⟩
    simp only [lowH, List.map_cons, hexL]
    simp only [] at h
    rw [h]
    simp only []
    rw [low_read n j, Nat.pow_succ, Nat.mod_mul]
    congr 1
    rw [Nat.add_mul, Nat.mul_assoc, Nat.mul_comm 16, Nat.mul_comm (16 ^ j) (n / 16 ^ j % 16)]
    omega

theorem hexLen_bd (n : Nat) : 1 ≤ hexLen n ∧ hexLen n ≤ 4 := by
  unfold hexLen
  split <;> try split <;> try split
  all_goals omega

theorem hexLen_lt {n : Nat} (h : n < 65536) : n < 16 ^ hexLen n := by
  unfold hexLen
  split
  · simpa using ‹n < 16›
  · split
    · simpa using ‹n < 256›
    · split
      · simpa using ‹n < 4096›
      · simpa using h

theorem hx_len (n : Nat) : (hxL n).length = hexLen n := by rw [hxL_is, List.length_map, lowH_length]

theorem hx_read {n : Nat} (h : n < 65536) : hexG (hxL n) = some n := by
  have b := hexLen_bd n
  have l := hx_len n
  unfold hexG
  rw [if_neg (by rw [l]; omega), hxL_is, low_read, Nat.mod_eq_of_lt (hexLen_lt h), Nat.zero_mul, Nat.zero_add]

theorem joinT_one (b : Int) (x : Nat) (sep : List UInt8) : joinT b [x] sep = (txtP b x).data.toList := by
  unfold joinT
  simp [Lib.join_cons, Lib.joinTail]

theorem joinT_two (b : Int) (x y : Nat) (r : List Nat) (c : UInt8) : joinT b (x :: y :: r) [c] = (txtP b x).data.toList ++ c :: joinT b (y :: r) [c] := by
  unfold joinT
  rw [List.map_cons, Lib.join_cons, List.map_cons, Lib.join_cons]
  simp [Lib.joinTail]

/-- The number that groups make behind a number. -/
def gval (n : Nat) (l : List Nat) : Nat := l.foldl (fun n v => n * 65536 + v) n

theorem gval_add : ∀ (l : List Nat) (n : Nat), gval n l = n * 65536 ^ l.length + gval 0 l
  | [], n => by simp [gval]
  | x :: l, n => by
    show gval (n * 65536 + x) l = _ + gval (0 * 65536 + x) l
    rw [gval_add l (n * 65536 + x), gval_add l (0 * 65536 + x), List.length_cons, Nat.pow_succ, Nat.zero_mul, Nat.zero_add, Nat.add_mul, Nat.mul_assoc, Nat.mul_comm 65536]
    omega

theorem gval_cons (n x : Nat) (l : List Nat) : gval n (x :: l) = gval (n * 65536 + x) l := by
  unfold gval
  rw [List.foldl_cons]

theorem gval_app (l m : List Nat) (n : Nat) : gval n (l ++ m) = gval (gval n l) m := by unfold gval; rw [List.foldl_append]

theorem gval_zero : ∀ m, gval 0 (List.replicate m 0) = 0
  | 0 => rfl
  | m + 1 => by
    show gval (0 * 65536 + 0) (List.replicate m 0) = 0
    exact gval_zero m

theorem join_long (ns : List Nat) : ns.length ≤ (joinT 16 ns [58]).length := by
  match ns with
  | [] => exact Nat.zero_le _
  | [x] =>
    rw [joinT_one, txt16]
    have := hexLen_bd x
    have l := hx_len x
    show 1 ≤ (hxL x).length
    omega
  | x :: y :: r =>
    have ih := join_long (y :: r)
    rw [joinT_two, List.length_append, List.length_cons]
    simp only [List.length_cons] at ih ⊢
    omega

theorem gr_join (last : Bool) : ∀ (ns : List Nat) (x f n c : Nat), (∀ y ∈ x :: ns, y < 65536) → ns.length < f → c + ns.length + 1 ≤ 8 → grF last f n c (joinT 16 (x :: ns) [58]) = some (gval n (x :: ns), c + ns.length + 1)
  | [], x, f + 1, n, c, h, _, hc => by
    rw [joinT_one, txt16, grF, cut1_no 58 _ (hx_no x)]
    have hx : hexG (hxL x) = some x := hx_read (h x (by simp))
    simp only [hx]
    simp only [List.length_nil] at hc
    rw [if_neg (by omega)]
    rfl
  | y :: r, x, f + 1, n, c, h, hf, hc => by
    have ih := gr_join last r y f (n * 65536 + x) (c + 1) (fun z hz => h z (by simp [List.mem_cons.1 hz])) (by simpa using hf) (by simp only [List.length_cons] at hc; omega)
    rw [joinT_two, txt16, grF, cut1_at 58 _ _ (hx_no x)]
    have hx : hexG (hxL x) = some x := hx_read (h x (by simp))
    simp only [hx]
    simp only [List.length_cons] at hc ⊢
    rw [if_neg (by omega), if_pos trivial, ih]
    rw [gval_cons n x (y :: r), show c + 1 + r.length + 1 = c + (r.length + 1) + 1 by omega]

theorem groups_join (last : Bool) (ns : List Nat) (h : ∀ y ∈ ns, y < 65536) (h8 : ns.length ≤ 8) : groupsF last (joinT 16 ns [58]) = some (gval 0 ns, ns.length) := by
  cases ns with
  | nil => rfl
  | cons x r =>
    have l := join_long (x :: r)
    simp only [List.length_cons] at l h8
    unfold groupsF
    rw [if_neg (by intro c; rw [c] at l; simp at l), gr_join last r x _ 0 0 h (by omega) (by omega), List.length_cons]
    congr 2
    omega

theorem join_cc : ∀ ns : List Nat, NoCC (joinT 16 ns [58] ++ [58]) = true
  | [] => rfl
  | [x] => by
    rw [joinT_one, txt16, noCC_skip _ _ (hx_no x)]
    rfl
  | x :: y :: r => by
    have ih := join_cc (y :: r)
    rw [joinT_two, txt16, List.append_assoc, noCC_skip _ _ (hx_no x), List.cons_append]
    show (!(58 == 58 && (joinT 16 (y :: r) [58] ++ [58]).head? == some 58) && NoCC (joinT 16 (y :: r) [58] ++ [58])) = true
    rw [ih, Bool.and_true]
    have hd : ∀ Z : List UInt8, (hxL y ++ Z).head? ≠ some 58 := by
      intro Z
      have l := hx_len y
      have b := hexLen_bd y
      have no := hx_no y
      cases e : hxL y with
      | nil => rw [e] at l; simp at l; omega
      | cons q t =>
        rw [e] at no
        simp only [List.cons_append, List.head?_cons]
        intro c
        exact no (by rw [← Option.some.inj c]; simp)
    have e : ∃ Z, joinT 16 (y :: r) [58] ++ [58] = hxL y ++ Z := by
      cases r with
      | nil => exact ⟨[58], by rw [joinT_one, txt16]⟩
      | cons z t => exact ⟨58 :: joinT 16 (z :: t) [58] ++ [58], by rw [joinT_two, txt16]; simp⟩
    obtain ⟨Z, hZ⟩ := e
    rw [hZ]
    have := hd Z
    simpa using this

theorem topP_val {a : Nat} (ha : a < 340282366920938463463374607431768211456) : ∀ k, k ≤ 8 → gval 0 (topP a 128 16 k) = a / 2 ^ (128 - 16 * k)
  | 0, _ => by
    show 0 = _
    exact (Nat.div_eq_of_lt ha).symm
  | k + 1, h => by
    have ih := topP_val ha k (by omega)
    rw [topP, gval_app, ih]
    show a / 2 ^ (128 - 16 * k) * 65536 + a / 2 ^ (128 - 16 * (k + 1)) % 2 ^ 16 = _
    have e : 2 ^ (128 - 16 * k) = 2 ^ (128 - 16 * (k + 1)) * 65536 := by rw [show 128 - 16 * k = (128 - 16 * (k + 1)) + 16 by omega, Nat.pow_add]
    rw [e, ← Nat.div_div_eq_div_mul]
    generalize a / 2 ^ (128 - 16 * (k + 1)) = A
    omega

theorem best_lead (gs : List Nat) : ∀ i, (bestR gs i).2 = 0 ∨ (bestR gs i).2 = lead (gs.drop (bestR gs i).1)
  | 0 => Or.inl rfl
  | i + 1 => by
    unfold bestR
    split
    · exact Or.inr rfl
    · exact best_lead gs i

/-- The value of eight groups of which a row of noughts is left out. -/
theorem gval_cut {gs : List Nat} {i m : Nat} (h : gs.length = 8) (him : i + m ≤ 8) (hz : m ≤ lead (gs.drop i)) : gval 0 gs = gval 0 (gs.take i) * 2 ^ (16 * (8 - i)) + gval 0 (gs.drop (i + m)) := by
  have e1 : (gs.drop i).take m = List.replicate m 0 := by
    rw [List.eq_replicate_iff]
    refine ⟨by rw [List.length_take, List.length_drop]; omega, fun b hb => ?_⟩
    obtain ⟨t, ht, rfl⟩ := List.mem_iff_getElem.1 hb
    rw [List.length_take] at ht
    have := (lead_at (gs.drop i) t (by omega)).1
    rw [List.getD_eq_getElem?_getD, List.getElem?_eq_getElem (by omega)] at this
    rw [List.getElem_take]
    exact this
  have e2 : gs = gs.take i ++ (List.replicate m 0 ++ gs.drop (i + m)) := by
    have a1 := List.take_append_drop i gs
    have a2 := List.take_append_drop m (gs.drop i)
    rw [e1, List.drop_drop] at a2
    rw [a2, a1]
  have e3 : gval 0 gs = gval 0 (gs.take i ++ (List.replicate m 0 ++ gs.drop (i + m))) := by rw [← e2]
  rw [e3, gval_app, gval_app, gval_add (gs.drop (i + m)), gval_add (List.replicate m 0), gval_zero, List.length_replicate, List.length_drop, h, Nat.add_zero, Nat.mul_assoc]
  congr 2
  rw [← Nat.pow_add, show (65536 : Nat) = 2 ^ 16 from rfl, ← Nat.pow_mul]
  congr 1
  omega

theorem long_read {a : Nat} (ha : a < 340282366920938463463374607431768211456) : longF (prL a).data.toList = some a := by
  have h8 : (topP a 128 16 8).length = 8 := topP_length a 128 16 8
  have hv := topP_val ha 8 (Nat.le_refl _)
  rw [show 128 - 16 * 8 = 0 from rfl, Nat.pow_zero, Nat.div_one] at hv
  have hlt := topP_lt a 128 16 (by decide) 8
  have bl := best_lo h8
  have be := best_le (topP a 128 16 8) 8 (by omega)
  have bd := best_lead (topP a 128 16 8) 8
  unfold prL
  generalize topP a 128 16 8 = gs at *
  by_cases c : (loR gs).1 = (loR gs).2
  · rw [if_pos c]
    show longF (joinT 16 gs [58]) = _
    unfold longF
    rw [cut2_no _ (noCC_pre _ [58] (join_cc gs)), if_neg (by simp), groups_join true gs hlt (by omega), hv, h8]
    rfl
  · rw [if_neg c]
    have m2 : 2 ≤ (bestR gs 8).2 := by
      apply Classical.byContradiction
      intro d
      exact c (bl.2 (by omega))
    have l := bl.1 m2
    rw [l]
    simp only []
    generalize hi : (bestR gs 8).1 = i at *
    generalize hm : (bestR gs 8).2 = m at *
    have hz : m ≤ lead (gs.drop i) := by omega
    show longF (joinT 16 (gs.take i) [58] ++ [58, 58] ++ joinT 16 (gs.drop (i + m)) [58]) = _
    have e : joinT 16 (gs.take i) [58] ++ [58, 58] ++ joinT 16 (gs.drop (i + m)) [58] = joinT 16 (gs.take i) [58] ++ 58 :: 58 :: joinT 16 (gs.drop (i + m)) [58] := by simp
    unfold longF
    rw [e, cut2_at _ _ (join_cc (gs.take i)), if_pos rfl]
    simp only []
    rw [groups_join false (gs.take i) (fun y hy => hlt y (List.mem_of_mem_take hy)) (by rw [List.length_take]; omega), groups_join true (gs.drop (i + m)) (fun y hy => hlt y (List.mem_of_mem_drop hy)) (by rw [List.length_drop]; omega)]
    simp only [List.length_take, List.length_drop]
    have li : min i gs.length = i := by omega
    rw [li, if_pos (by omega), ← gval_cut h8 (by omega) hz, hv]

theorem index_in : ∀ l : List UInt8, (58 : UInt8) ∈ l → 0 ≤ Lib.indexByte l 58
  | [], h => by cases h
  | b :: l, h => by
    unfold Lib.indexByte
    split
    · omega
    · rename_i hb
      have h2 : (58 : UInt8) ∈ l := by
        rcases List.mem_cons.1 h with e | e
        · exact absurd (by simp [e]) hb
        · exact e
      have ih := index_in l h2
      split
      · rename_i c
        simp at c
        omega
      · omega

theorem index_out : ∀ l : List UInt8, (58 : UInt8) ∉ l → Lib.indexByte l 58 = -1
  | [], _ => rfl
  | b :: l, h => by
    have ih := index_out l (fun m => h (List.mem_cons_of_mem _ m))
    have hb : b ≠ 58 := fun e => h (by simp [e])
    unfold Lib.indexByte
    rw [ih]
    simp [hb]

theorem join_colon (x y : Nat) (r : List Nat) : (58 : UInt8) ∈ joinT 16 (x :: y :: r) [58] := by rw [joinT_two]; simp

theorem long_colon (a : Nat) : colonF (prL a).data.toList = true := by
  have h8 : (topP a 128 16 8).length = 8 := topP_length a 128 16 8
  unfold colonF
  refine decide_eq_true (index_in _ ?_)
  unfold prL
  generalize topP a 128 16 8 = gs at *
  split
  · match gs, h8 with
    | x :: y :: r, _ => exact join_colon x y r
  · show (58 : UInt8) ∈ joinT 16 (gs.take (loR gs).1) [58] ++ [58, 58] ++ joinT 16 (gs.drop (loR gs).2) [58]
    simp

theorem dec_all : ∀ d : Fin 256, decV (txtP 10 d.val).data.toList = some d.val ∧ (46 : UInt8) ∉ (txtP 10 d.val).data.toList ∧ (58 : UInt8) ∉ (txtP 10 d.val).data.toList := by decide +kernel

theorem dec_at {n : Nat} (h : n < 2 ^ 8) : decV (txtP 10 n).data.toList = some n ∧ (46 : UInt8) ∉ (txtP 10 n).data.toList ∧ (58 : UInt8) ∉ (txtP 10 n).data.toList := dec_all ⟨n, h⟩

theorem top4 (a : Nat) : topP a 32 8 4 = [a / 2 ^ 24 % 2 ^ 8, a / 2 ^ 16 % 2 ^ 8, a / 2 ^ 8 % 2 ^ 8, a / 2 ^ 0 % 2 ^ 8] := rfl

theorem short_read {a : Nat} (ha : a < 4294967296) : shortF 3 0 (prS a).data.toList = some a ∧ colonF (prS a).data.toList = false := by
  have d0 := dec_at (n := a / 2 ^ 24 % 2 ^ 8) (Nat.mod_lt _ (by decide))
  have d1 := dec_at (n := a / 2 ^ 16 % 2 ^ 8) (Nat.mod_lt _ (by decide))
  have d2 := dec_at (n := a / 2 ^ 8 % 2 ^ 8) (Nat.mod_lt _ (by decide))
  have d3 := dec_at (n := a / 2 ^ 0 % 2 ^ 8) (Nat.mod_lt _ (by decide))
  have hv : (((0 * 256 + a / 2 ^ 24 % 2 ^ 8) * 256 + a / 2 ^ 16 % 2 ^ 8) * 256 + a / 2 ^ 8 % 2 ^ 8) * 256 + a / 2 ^ 0 % 2 ^ 8 = a := by
    simp only [Nat.pow_zero, Nat.div_one]
    omega
  unfold prS
  rw [top4]
  generalize a / 2 ^ 24 % 2 ^ 8 = x0 at *
  generalize a / 2 ^ 16 % 2 ^ 8 = x1 at *
  generalize a / 2 ^ 8 % 2 ^ 8 = x2 at *
  generalize a / 2 ^ 0 % 2 ^ 8 = x3 at *
  show shortF 3 0 (joinT 10 [x0, x1, x2, x3] [46]) = _ ∧ colonF (joinT 10 [x0, x1, x2, x3] [46]) = _
  rw [joinT_two, joinT_two, joinT_two, joinT_one]
  generalize (txtP 10 x0).data.toList = t0 at *
  generalize (txtP 10 x1).data.toList = t1 at *
  generalize (txtP 10 x2).data.toList = t2 at *
  generalize (txtP 10 x3).data.toList = t3 at *
  constructor
  · simp only [shortF, cut1_at 46 _ _ d0.2.1, cut1_at 46 _ _ d1.2.1, cut1_at 46 _ _ d2.2.1, cut1_no 46 _ d3.2.1, d0.1, d1.1, d2.1, d3.1, if_true, hv]
    simp [hv]
  · unfold colonF
    rw [index_out _ (by simp [d0.2.2, d1.2.2, d2.2.2, d3.2.2])]
    rfl

/-- What is printed is read. -/
theorem parse_print {v : Bool} {a : Nat} (ha : a < 340282366920938463463374607431768211456) (ok : okA v a = true) : parseF (prA v a).data.toList = some (v, a) := by
  cases v
  · have h4 : a < 4294967296 := by unfold okA at ok; simpa using ok
    have h := short_read h4
    have e : prA false a = prS a := by unfold prA; rw [if_pos ok]; rfl
    unfold parseF
    rw [e, h.2, if_neg (by simp), h.1]
    rfl
  · have e : prA true a = prL a := by unfold prA; rw [if_pos ok]; rfl
    unfold parseF
    rw [e, long_colon, if_pos rfl, long_read ha]
    rfl
end Go.Proofs.YtipjmmhlfmahbaaGreatDoor

namespace Go.Proofs.YtipjmmhlfmahbaaGreatDoor
open Go.ChangeShapes Go.WideShapes Go.ChangeAt Go.RowKit
set_option linter.unusedVariables false
set_option linter.unusedSimpArgs false

/-- The groups of a text, behind bytes that are read; gap: where two colons stood. -/
def rloop : Nat → List UInt8 → List Nat → Option Nat → Option (List Nat × Option Nat)
  | 0, _, _, _ => none
  | f + 1, l, out, gap => if l = [] then some (out, gap) else
    if (46 : UInt8) ∈ (cutG [58] l).1 then (fourS l none []).map (fun b => (out ++ b, gap))
    else match hexG (cutG [58] l).1 with
      | none => none
      | some n => if 14 < out.length then none
        else if (cutG [58] l).2.2 = false then some (out ++ [n / 256, n % 256], gap)
        else match (cutG [58] l).2.1 with
          | [] => none
          | c :: Z => if c = 58 then (match gap with
              | some _ => none
              | none => rloop f Z (out ++ [n / 256, n % 256]) (some (out.length + 2)))
            else rloop f (c :: Z) (out ++ [n / 256, n % 256]) gap

/-- The number of all bytes. -/
def rfin (out : List Nat) : Option Nat → Option Nat
  | none => if out.length = 16 then some (bnum 0 out) else none
  | some g => if 14 < out.length then none else some (bnum 0 (out.take g ++ List.replicate (16 - out.length) 0 ++ out.drop g))

/-- The number of a long text. -/
def refL (l : List UInt8) : Option Nat :=
  match (if l.take 2 = [58, 58] then rloop (l.length + 1) (l.drop 2) [] (some 0) else rloop (l.length + 1) l [] none) with
  | none => none
  | some (o, g) => rfin o g

theorem bnum_app (l m : List Nat) (n : Nat) : bnum n (l ++ m) = bnum (bnum n l) m := by unfold bnum; rw [List.foldl_append]

theorem bnum_cons (n x : Nat) (l : List Nat) : bnum n (x :: l) = bnum (n * 256 + x) l := by unfold bnum; rw [List.foldl_cons]

theorem bnum_add : ∀ (l : List Nat) (n : Nat), bnum n l = n * 256 ^ l.length + bnum 0 l
  | [], n => by simp [bnum]
  | x :: l, n => by
    rw [bnum_cons, bnum_cons, bnum_add l (n * 256 + x), bnum_add l (0 * 256 + x), List.length_cons, Nat.pow_succ, Nat.zero_mul, Nat.zero_add, Nat.add_mul, Nat.mul_assoc, Nat.mul_comm 256]
    omega

theorem bnum_zero : ∀ m, bnum 0 (List.replicate m 0) = 0
  | 0 => rfl
  | m + 1 => by
    rw [List.replicate_succ, bnum_cons]
    exact bnum_zero m

theorem bnum_group {B : List Nat} {n v : Nat} (h : bnum 0 B = n) : bnum 0 (B ++ [v / 256, v % 256]) = n * 65536 + v := by
  rw [bnum_app, h, bnum_cons, bnum_cons]
  show (n * 256 + v / 256) * 256 + v % 256 = _
  omega

theorem fourS_colon : ∀ (l : List UInt8) (n : Option Nat) (out : List Nat), (58 : UInt8) ∈ l → fourS l n out = none
  | [], _, _, h => by cases h
  | c :: r, n, out, h => by
    rw [fourS_cons]
    by_cases hc : c = 58
    · subst hc
      rw [if_neg (by decide), if_pos (Or.inr (Or.inl (by decide)))]
    · have hr : (58 : UInt8) ∈ r := (List.mem_cons.1 h).resolve_left (fun e => hc e.symm)
      split
      · cases n with
        | none => rfl
        | some v =>
          show (if out.length = 4 then none else fourS r none (out ++ [v])) = none
          rw [fourS_colon r none _ hr]
          split <;> rfl
      · split
        · rfl
        · split
          · rfl
          · exact fourS_colon r _ out hr

theorem hexL_dot : ∀ (l : List UInt8) (a : Nat), (46 : UInt8) ∈ l → hexL a l = none
  | [], _, h => by cases h
  | c :: r, a, h => by
    unfold hexL
    by_cases hc : c = 46
    · subst hc
      rfl
    · have hr : (46 : UInt8) ∈ r := (List.mem_cons.1 h).resolve_left (fun e => hc e.symm)
      cases hexD c.toNat with
      | none => rfl
      | some d => exact hexL_dot r _ hr

theorem hexG_dot {l : List UInt8} (h : (46 : UInt8) ∈ l) : hexG l = none := by
  unfold hexG
  split
  · rfl
  · exact hexL_dot l 0 h

theorem short_no {X : List UInt8} (h : (46 : UInt8) ∉ X) : shortF 3 0 X = none := by
  unfold shortF
  rw [cut1_no 46 X h, if_neg (by simp)]

theorem gr_ge (last : Bool) : ∀ (f n c : Nat) (l : List UInt8) (m j : Nat), grF last f n c l = some (m, j) → c < j ∧ j ≤ 8
  | 0, _, _, _, _, _, h => by cases h
  | f + 1, n, c, l, m, j, h => by
    unfold grF at h
    split at h
    · split at h
      · cases h
      · split at h
        · have := gr_ge last f _ _ _ m j h
          omega
        · cases h
          omega
    · split at h
      · split at h
        · split at h
          · cases h
          · cases h
            omega
        · cases h
      · cases h

theorem gr_nil (last : Bool) (f n c : Nat) : grF last f n c [] = none := by
  cases f with
  | zero => rfl
  | succ f => rfl

theorem gr_colon (last : Bool) (f n c : Nat) (Z : List UInt8) : grF last f n c (58 :: Z) = none := by
  cases f with
  | zero => rfl
  | succ f =>
    have e : cutG [58] (58 :: Z) = ([], Z, true) := cut1_at 58 Z [] (by simp)
    unfold grF
    rw [e]
    rfl

/-- One step, where the first group ends the text. -/
theorem rl_end {f : Nat} {l : List UInt8} {out : List Nat} {gap : Option Nat} (h0 : l ≠ []) (h1 : (58 : UInt8) ∉ l) : rloop (f + 1) l out gap = if (46 : UInt8) ∈ l then (fourS l none []).map (fun b => (out ++ b, gap)) else match hexG l with
    | none => none
    | some n => if 14 < out.length then none else some (out ++ [n / 256, n % 256], gap) := by
  unfold rloop
  rw [if_neg h0, cut1_no 58 l h1]
  simp only [if_true]

/-- One step, where a colon stands behind the first group. -/
theorem rl_more {f : Nat} {X Y : List UInt8} {out : List Nat} {gap : Option Nat} (h1 : (58 : UInt8) ∉ X) : rloop (f + 1) (X ++ 58 :: Y) out gap = match hexG X with
    | none => none
    | some n => if 14 < out.length then none else match Y with
        | [] => none
        | c :: Z => if c = 58 then (match gap with
            | some _ => none
            | none => rloop f Z (out ++ [n / 256, n % 256]) (some (out.length + 2)))
          else rloop f (c :: Z) (out ++ [n / 256, n % 256]) gap := by
  conv => lhs; unfold rloop
  rw [if_neg (by simp), cut1_at 58 Y X h1]
  simp only [show (true = false) = False by simp, if_false]
  by_cases d : (46 : UInt8) ∈ X
  · rw [if_pos d, fourS_colon _ none [] (by simp), hexG_dot d]
    rfl
  · rw [if_neg d]

theorem gr_more (last : Bool) {f n c : Nat} {X Y : List UInt8} (h1 : (58 : UInt8) ∉ X) : grF last (f + 1) n c (X ++ 58 :: Y) = match hexG X with
    | none => none
    | some v => if 8 < c + 1 then none else grF last f (n * 65536 + v) (c + 1) Y := by
  conv => lhs; unfold grF
  rw [cut1_at 58 Y X h1]
  simp only [if_true]
  cases hexG X with
  | some v => rfl
  | none =>
    simp only []
    cases shortF 3 0 X with
    | none => rfl
    | some v => simp

/-- Behind two colons. -/
theorem la (g i : Nat) (A : List Nat) (hA : A.length = 2 * i) : ∀ (f : Nat) (l : List UInt8) (f' : Nat) (B : List Nat) (n c : Nat), l.length < f → l.length < f' → l ≠ [] → B.length = 2 * c → bnum 0 B = n → i + c ≤ 8 →
    (∃ m j B', grF true f' n c l = some (m, j) ∧ rloop f l (A ++ B) (some g) = some (A ++ B', some g) ∧ bnum 0 B' = m ∧ B'.length = 2 * j) ∨
    ((∀ m j, grF true f' n c l = some (m, j) → 8 ≤ i + j) ∧ (∀ o gp, rloop f l (A ++ B) (some g) = some (o, gp) → gp = some g ∧ 14 < o.length))
  | 0, l, f', B, n, c, hf, _, _, _, _, _ => by omega
  | f + 1, l, 0, B, n, c, _, hf, _, _, _, _ => by omega
  | f + 1, l, f' + 1, B, n, c, hf, hf', h0, hB, hn, hic => by
    have hAB : (A ++ B).length = 2 * i + 2 * c := by rw [List.length_append]; omega
    rcases cut1_or 58 l with ⟨X, Y, e, h1, _⟩ | ⟨h1, h2⟩
    · subst e
      rw [rl_more h1, gr_more true h1]
      cases hexG X with
      | none => exact Or.inr ⟨fun m j h => (by cases h), fun o gp h => (by cases h)⟩
      | some v =>
        simp only []
        by_cases h14 : 14 < (A ++ B).length
        · rw [if_pos h14]
          refine Or.inr ⟨fun m j h => ?_, fun o gp h => (by cases h)⟩
          split at h
          · cases h
          · have := gr_ge true _ _ _ _ m j h
            omega
        · rw [if_neg h14, if_neg (by omega)]
          cases Y with
          | nil => exact Or.inr ⟨fun m j h => (by rw [gr_nil] at h; cases h), fun o gp h => (by cases h)⟩
          | cons c' Z =>
            simp only []
            by_cases hc : c' = 58
            · subst hc
              rw [if_pos rfl]
              exact Or.inr ⟨fun m j h => (by rw [gr_colon] at h; cases h), fun o gp h => (by cases h)⟩
            · rw [if_neg hc, List.append_assoc]
              have l1 : (c' :: Z).length < (X ++ 58 :: c' :: Z).length := by simp; omega
              exact la g i A hA f (c' :: Z) f' (B ++ [v / 256, v % 256]) (n * 65536 + v) (c + 1) (by omega) (by omega) (by simp) (by rw [List.length_append]; simp; omega) (bnum_group hn) (by omega)
    · rw [rl_end h0 h1]
      unfold grF
      rw [h2]
      simp only []
      by_cases d : (46 : UInt8) ∈ l
      · rw [if_pos d, hexG_dot d]
        have fs := four_short 3 [] l rfl
        have fb := four_bytes l none []
        cases hf4 : fourS l none [] with
        | none =>
          rw [hf4] at fs
          have e : shortF 3 0 l = none := fs.symm
          rw [e]
          exact Or.inr ⟨fun m j h => (by cases h), fun o gp h => (by cases h)⟩
        | some b =>
          rw [hf4] at fs
          have e : shortF 3 0 l = some (bnum 0 b) := fs.symm
          have b4 := (fb b (fun v e => by cases e) (fun b m => by cases m) hf4).1
          rw [e]
          simp only [true_and, if_true]
          by_cases h8 : 8 < c + 2
          · rw [if_pos h8]
            refine Or.inr ⟨fun m j h => (by cases h), fun o gp h => ?_⟩
            cases h
            refine ⟨rfl, ?_⟩
            rw [List.length_append, hAB]
            omega
          · rw [if_neg h8]
            refine Or.inl ⟨n * 4294967296 + bnum 0 b, c + 2, B ++ b, rfl, ?_, ?_, ?_⟩
            · show some (A ++ B ++ b, some g) = _
              rw [List.append_assoc]
            · rw [bnum_app, hn, bnum_add b n, b4]
            · rw [List.length_append]; omega
      · rw [if_neg d, short_no d]
        cases hexG l with
        | none => exact Or.inr ⟨fun m j h => (by cases h), fun o gp h => (by cases h)⟩
        | some v =>
          simp only []
          by_cases h14 : 14 < (A ++ B).length
          · rw [if_pos h14]
            refine Or.inr ⟨fun m j h => ?_, fun o gp h => (by cases h)⟩
            split at h
            · cases h
            · simp at h
              omega
          · rw [if_neg h14, if_neg (by omega)]
            refine Or.inl ⟨n * 65536 + v, c + 1, B ++ [v / 256, v % 256], by simp, ?_, bnum_group hn, by rw [List.length_append]; simp; omega⟩
            rw [List.append_assoc]

theorem noCC_cons {a : UInt8} {l : List UInt8} (h : NoCC (a :: l) = true) : ¬ (a = 58 ∧ l.head? = some 58) ∧ NoCC l = true := by
  have h' : (!(a == 58 && l.head? == some 58) && NoCC l) = true := h
  rw [Bool.and_eq_true] at h'
  refine ⟨fun ⟨e1, e2⟩ => ?_, h'.2⟩
  rw [e1, e2] at h'
  simp at h'

theorem noCC_suf : ∀ (X Z : List UInt8), NoCC (X ++ Z) = true → NoCC Z = true
  | [], _, h => h
  | b :: X, Z, h => noCC_suf X Z (noCC_cons h).2

/-- Where no two colons stand side by side. -/
theorem lb : ∀ (f : Nat) (l : List UInt8) (f' : Nat) (B : List Nat) (n c : Nat), l.length < f → l.length < f' → l ≠ [] → NoCC l = true → B.length = 2 * c → bnum 0 B = n → c ≤ 8 →
    (∃ m j B', grF true f' n c l = some (m, j) ∧ rloop f l B none = some (B', none) ∧ bnum 0 B' = m ∧ B'.length = 2 * j) ∨
    (grF true f' n c l = none ∧ (∀ o gp, rloop f l B none = some (o, gp) → gp = none ∧ o.length ≠ 16))
  | 0, l, f', B, n, c, hf, _, _, _, _, _, _ => by omega
  | f + 1, l, 0, B, n, c, _, hf, _, _, _, _, _ => by omega
  | f + 1, l, f' + 1, B, n, c, hf, hf', h0, hcc, hB, hn, hic => by
    rcases cut1_or 58 l with ⟨X, Y, e, h1, _⟩ | ⟨h1, h2⟩
    · subst e
      rw [rl_more h1, gr_more true h1]
      cases hexG X with
      | none => exact Or.inr ⟨rfl, fun o gp h => (by cases h)⟩
      | some v =>
        simp only []
        by_cases h14 : 14 < B.length
        · rw [if_pos h14, if_pos (by omega)]
          exact Or.inr ⟨rfl, fun o gp h => (by cases h)⟩
        · rw [if_neg h14, if_neg (by omega)]
          have hy := noCC_cons (noCC_suf X _ hcc)
          cases Y with
          | nil => exact Or.inr ⟨gr_nil _ _ _ _, fun o gp h => (by cases h)⟩
          | cons c' Z =>
            simp only []
            have hc : c' ≠ 58 := fun e => hy.1 ⟨rfl, by rw [e]; rfl⟩
            rw [if_neg hc]
            have l1 : (c' :: Z).length < (X ++ 58 :: c' :: Z).length := by simp; omega
            exact lb f (c' :: Z) f' (B ++ [v / 256, v % 256]) (n * 65536 + v) (c + 1) (by omega) (by omega) (by simp) hy.2 (by rw [List.length_append]; simp; omega) (bnum_group hn) (by omega)
    · rw [rl_end h0 h1]
      unfold grF
      rw [h2]
      simp only []
      by_cases d : (46 : UInt8) ∈ l
      · rw [if_pos d, hexG_dot d]
        have fs := four_short 3 [] l rfl
        have fb := four_bytes l none []
        cases hf4 : fourS l none [] with
        | none =>
          rw [hf4] at fs
          have e : shortF 3 0 l = none := fs.symm
          rw [e]
          exact Or.inr ⟨rfl, fun o gp h => (by cases h)⟩
        | some b =>
          rw [hf4] at fs
          have e : shortF 3 0 l = some (bnum 0 b) := fs.symm
          have b4 := (fb b (fun v e => by cases e) (fun b m => by cases m) hf4).1
          rw [e]
          simp only [true_and, if_true]
          by_cases h8 : 8 < c + 2
          · rw [if_pos h8]
            refine Or.inr ⟨rfl, fun o gp h => ?_⟩
            cases h
            refine ⟨rfl, ?_⟩
            rw [List.length_append]
            omega
          · rw [if_neg h8]
            refine Or.inl ⟨n * 4294967296 + bnum 0 b, c + 2, B ++ b, rfl, rfl, ?_, ?_⟩
            · rw [bnum_app, hn, bnum_add b n, b4]
            · rw [List.length_append]; omega
      · rw [if_neg d, short_no d]
        cases hexG l with
        | none => exact Or.inr ⟨rfl, fun o gp h => (by cases h)⟩
        | some v =>
          simp only []
          by_cases h14 : 14 < B.length
          · rw [if_pos h14, if_pos (by omega)]
            exact Or.inr ⟨rfl, fun o gp h => (by cases h)⟩
          · rw [if_neg h14, if_neg (by omega)]
            exact Or.inl ⟨n * 65536 + v, c + 1, B ++ [v / 256, v % 256], by simp, rfl, bnum_group hn, by rw [List.length_append]; simp; omega⟩

/-- Up to the two colons. -/
theorem lc (Z : List UInt8) : ∀ (f : Nat) (A : List UInt8) (f' : Nat) (B : List Nat) (n c : Nat), (A ++ 58 :: 58 :: Z).length < f → A.length < f' → A ≠ [] → NoCC (A ++ [58]) = true → B.length = 2 * c → bnum 0 B = n → c ≤ 8 →
    (∃ m j B' f2, grF false f' n c A = some (m, j) ∧ rloop f (A ++ 58 :: 58 :: Z) B none = rloop f2 Z B' (some (2 * j)) ∧ Z.length < f2 ∧ bnum 0 B' = m ∧ B'.length = 2 * j) ∨
    (grF false f' n c A = none ∧ rloop f (A ++ 58 :: 58 :: Z) B none = none)
  | 0, A, f', B, n, c, hf, _, _, _, _, _, _ => by omega
  | f + 1, A, 0, B, n, c, _, hf, _, _, _, _, _ => by omega
  | f + 1, A, f' + 1, B, n, c, hf, hf', h0, hcc, hB, hn, hic => by
    rcases cut1_or 58 A with ⟨X, Y, e, h1, _⟩ | ⟨h1, h2⟩
    · subst e
      have e2 : X ++ 58 :: Y ++ 58 :: 58 :: Z = X ++ 58 :: (Y ++ 58 :: 58 :: Z) := by simp
      have e3 : X ++ 58 :: Y ++ [58] = X ++ 58 :: (Y ++ [58]) := by simp
      rw [e2] at hf ⊢
      rw [e3] at hcc
      rw [rl_more h1, gr_more false h1]
      cases hexG X with
      | none => exact Or.inr ⟨rfl, rfl⟩
      | some v =>
        simp only []
        by_cases h14 : 14 < B.length
        · rw [if_pos h14, if_pos (by omega)]
          exact Or.inr ⟨rfl, rfl⟩
        · rw [if_neg h14, if_neg (by omega)]
          have hy := noCC_cons (noCC_suf X _ hcc)
          cases Y with
          | nil => exact absurd ⟨rfl, rfl⟩ hy.1
          | cons c' Q =>
            simp only [List.cons_append]
            have hc : c' ≠ 58 := fun e => hy.1 ⟨rfl, by rw [e]; rfl⟩
            rw [if_neg hc]
            exact lc Z f (c' :: Q) f' (B ++ [v / 256, v % 256]) (n * 65536 + v) (c + 1) (by simp at hf ⊢; omega) (by simp at hf' ⊢; omega) (by simp) hy.2 (by rw [List.length_append]; simp; omega) (bnum_group hn) (by omega)
    · rw [rl_more h1]
      unfold grF
      rw [h2]
      simp only []
      cases hexG A with
      | none =>
        simp only []
        refine Or.inr ⟨?_, by first | trivial | rfl⟩
        cases shortF 3 0 A with
        | none => rfl
        | some v => simp
      | some v =>
        simp only []
        by_cases h14 : 14 < B.length
        · rw [if_pos h14, if_pos (by omega)]
          exact Or.inr ⟨rfl, rfl⟩
        · rw [if_neg h14, if_neg (by omega), if_pos trivial]
          refine Or.inl ⟨n * 65536 + v, c + 1, B ++ [v / 256, v % 256], f, by simp, ?_, by simp at hf; omega, bnum_group hn, by rw [List.length_append]; simp; omega⟩
          rw [show B.length + 2 = 2 * (c + 1) by omega]

/-- A text is cut at its first two colons, or it has none. -/
theorem cut2_or : ∀ l : List UInt8, (∃ A Z, l = A ++ 58 :: 58 :: Z ∧ NoCC (A ++ [58]) = true ∧ cutG [58, 58] l = (A, Z, true)) ∨ (NoCC l = true ∧ cutG [58, 58] l = (l, [], false))
  | [] => Or.inr ⟨rfl, rfl⟩
  | b :: l => by
    by_cases hp : ([58, 58] : List UInt8).isPrefixOf (b :: l) = true
    · rw [pre2, Bool.and_eq_true, beq_iff_eq, beq_iff_eq] at hp
      obtain ⟨rfl, h2⟩ := hp
      cases l with
      | nil => cases h2
      | cons x r =>
        have : x = 58 := Option.some.inj h2
        subst this
        exact Or.inl ⟨[], r, rfl, rfl, by simp [cutG, List.isPrefixOf]⟩
    · have st : cutG [58, 58] (b :: l) = (b :: (cutG [58, 58] l).1, (cutG [58, 58] l).2.1, (cutG [58, 58] l).2.2) := by rw [cutG, if_neg hp]
      rw [pre2, Bool.not_eq_true] at hp
      rcases cut2_or l with ⟨A, Z, e, h1, h2⟩ | ⟨h1, h2⟩
      · refine Or.inl ⟨b :: A, Z, by rw [e]; rfl, ?_, by rw [st, h2]⟩
        have eh : (A ++ [58]).head? = l.head? := by rw [e]; cases A <;> rfl
        show (!(b == 58 && (A ++ [58]).head? == some 58) && NoCC (A ++ [58])) = true
        rw [eh, hp, h1]
        rfl
      · refine Or.inr ⟨?_, by rw [st, h2]⟩
        show (!(b == 58 && l.head? == some 58) && NoCC l) = true
        rw [hp, h1]
        rfl

theorem rfin_some (o : List Nat) (g : Nat) : rfin o (some g) = if 14 < o.length then none else some (bnum 0 (o.take g ++ List.replicate (16 - o.length) 0 ++ o.drop g)) := rfl

theorem rfin_none (o : List Nat) : rfin o none = if o.length = 16 then some (bnum 0 o) else none := rfl

/-- The number where two colons are filled up. -/
theorem fin_gap {P Q : List Nat} {i j : Nat} (hP : P.length = 2 * i) (hQ : Q.length = 2 * j) (h : i + j < 8) : rfin (P ++ Q) (some (2 * i)) = some (bnum 0 P * 2 ^ (16 * (8 - i)) + bnum 0 Q) := by
  rw [rfin_some]
  have l : (P ++ Q).length = 2 * i + 2 * j := by rw [List.length_append]; omega
  rw [if_neg (by omega), ← hP, List.take_left, List.drop_left, bnum_app, bnum_app, bnum_add Q, bnum_add (List.replicate _ _), bnum_zero, List.length_replicate, Nat.add_zero, hQ, l, Nat.mul_assoc, ← Nat.pow_add, show (256 : Nat) = 2 ^ 8 from rfl, ← Nat.pow_mul]
  congr 3
  congr 1
  omega

theorem fin_long {o : List Nat} {g : Nat} (h : 14 < o.length) : rfin o (some g) = none := by
  rw [rfin_some, if_pos h]

theorem refL_is {l : List UInt8} (hl : l ≠ []) : refL l = longF l := by
  unfold refL longF
  rcases cut2_or l with ⟨A, Z, e, hcc, hcut⟩ | ⟨hcc, hcut⟩
  · rw [hcut, if_pos rfl]
    simp only []
    -- behind the two colons, whatever stands ahead
    have key : ∀ (P : List Nat) (i f2 : Nat), P.length = 2 * i → i ≤ 8 → Z.length < f2 →
        (match rloop f2 Z P (some (2 * i)) with | none => none | some (o, g) => rfin o g) = (match groupsF true Z with | some (b, j) => if i + j < 8 then some (bnum 0 P * 2 ^ (16 * (8 - i)) + b) else none | none => none) := by
      intro P i f2 hP hi hf
      by_cases hZ : Z = []
      · subst hZ
        cases f2 with
        | zero => simp at hf
        | succ f2 =>
          have r1 : rloop (f2 + 1) [] P (some (2 * i)) = some (P, some (2 * i)) := by unfold rloop; rw [if_pos rfl]
          have r2 : groupsF true [] = some (0, 0) := rfl
          rw [r1, r2]
          simp only []
          by_cases h8 : i + 0 < 8
          · rw [if_pos h8]
            have := fin_gap (P := P) (Q := []) (i := i) (j := 0) hP rfl h8
            rw [List.append_nil] at this
            exact this
          · rw [if_neg h8]
            exact fin_long (by omega)
      · have gz : groupsF true Z = grF true (Z.length + 1) 0 0 Z := by unfold groupsF; rw [if_neg hZ]
        rw [gz]
        have q := la (2 * i) i P hP f2 Z (Z.length + 1) [] 0 0 hf (by omega) hZ rfl rfl (by omega)
        rw [List.append_nil] at q
        rcases q with ⟨m, j, B', h1, h2, h3, h4⟩ | ⟨h1, h2⟩
        · rw [h1, h2]
          simp only []
          by_cases h8 : i + j < 8
          · rw [if_pos h8, fin_gap hP h4 h8, h3]
          · rw [if_neg h8]
            exact fin_long (by rw [List.length_append]; omega)
        · have e1 : (match rloop f2 Z P (some (2 * i)) with | none => none | some (o, g) => rfin o g) = none := by
            cases hr : rloop f2 Z P (some (2 * i)) with
            | none => rfl
            | some x =>
              obtain ⟨o, gp⟩ := x
              obtain ⟨e, h14⟩ := h2 o gp hr
              subst e
              exact fin_long h14
          rw [e1]
          cases hg : grF true (Z.length + 1) 0 0 Z with
          | none => rfl
          | some x =>
            obtain ⟨m, j⟩ := x
            have := h1 m j hg
            simp only []
            rw [if_neg (by omega)]
    by_cases hA : A = []
    · subst hA
      have e0 : l = 58 :: 58 :: Z := e
      subst e0
      rw [if_pos (show List.take 2 (58 :: 58 :: Z) = [58, 58] from rfl)]
      have k := key [] 0 (Z.length + 1 + 1 + 1) rfl (by omega) (by omega)
      have g0 : groupsF false [] = some (0, 0) := rfl
      rw [g0]
      cases hgz : groupsF true Z with
      | none =>
        rw [hgz] at k
        exact k
      | some x =>
        rw [hgz] at k
        exact k
    · have t2 : ¬ l.take 2 = [58, 58] := by
        intro h
        rw [e] at h
        match A, hA, hcc with
        | [a], _, hcc =>
          simp at h
          subst h
          exact (noCC_cons hcc).1 ⟨rfl, rfl⟩
        | a :: b :: r, _, hcc =>
          simp at h
          obtain ⟨rfl, rfl⟩ := h
          exact (noCC_cons hcc).1 ⟨rfl, rfl⟩
      rw [if_neg t2]
      have gA : groupsF false A = grF false (A.length + 1) 0 0 A := by unfold groupsF; rw [if_neg hA]
      rw [gA]
      have q := lc Z (l.length + 1) A (A.length + 1) [] 0 0 (by rw [← e]; omega) (by omega) hA hcc rfl rfl (by omega)
      rw [← e] at q
      rcases q with ⟨m, i, B', f2, h1, h2, hf2, h3, h4⟩ | ⟨h1, h2⟩
      · have hi := (gr_ge false _ _ _ _ m i h1).2
        have k := key B' i f2 h4 hi hf2
        rw [h1, h2, k, h3]
        cases groupsF true Z with
        | none => rfl
        | some x => rfl
      · rw [h1, h2]
  · have t2 : ¬ l.take 2 = [58, 58] := by
      intro h
      match l, hcc, h with
      | [], _, h => cases h
      | [a], _, h => simp at h
      | a :: b :: r, hcc, h =>
        simp at h
        obtain ⟨rfl, rfl⟩ := h
        exact (noCC_cons hcc).1 ⟨rfl, rfl⟩
    rw [if_neg t2, hcut, if_neg (by simp)]
    have gl : groupsF true l = grF true (l.length + 1) 0 0 l := by unfold groupsF; rw [if_neg hl]
    rw [gl]
    rcases lb (l.length + 1) l (l.length + 1) [] 0 0 (by omega) (by omega) hl hcc rfl rfl (by omega) with ⟨m, j, B', h1, h2, h3, h4⟩ | ⟨h1, h2⟩
    · rw [h1, h2]
      simp only []
      rw [rfin_none]
      by_cases h8 : j = 8
      · rw [if_pos h8, if_pos (by omega), h3]
      · rw [if_neg h8, if_neg (by omega)]
    · rw [h1]
      cases hr : rloop (l.length + 1) l [] none with
      | none => rfl
      | some x =>
        obtain ⟨o, gp⟩ := x
        obtain ⟨e, h16⟩ := h2 o gp hr
        subst e
        simp only []
        rw [rfin_none, if_neg h16]
end Go.Proofs.YtipjmmhlfmahbaaGreatDoor
